package tests

import (
	"slices"
	"testing"

	"loop.example/g00049/impl"
)

func noFrame(code int64) impl.FrameResult {
	return impl.FrameResult{Code: code}
}

func toldFrame(f impl.Frame) impl.FrameResult {
	return impl.FrameResult{Used: int64(len(f.Payload)) + 7, Frame: f}
}

// readByWord asks for one fault after the other, with a sum that is divided bit by bit.
func readByWord(data []byte) impl.FrameResult {
	switch {
	case len(data) > 100000:
		return noFrame(impl.ErrMany)
	case len(data) < 7 || data[0] != 0x5A || data[1] != 0xA5:
		return noFrame(impl.ErrText)
	}
	length := int(data[3])*256 + int(data[4])
	if length > 1000 || len(data) < length+7 {
		return noFrame(impl.ErrText)
	}
	f := frameOf(int64(data[2]), data[5:5+length]...)
	if !slices.Equal(writtenByWords(data[2], f.Payload), data[:length+7]) {
		return noFrame(impl.ErrForm)
	}
	return toldFrame(f)
}

func sameFrameResult(a impl.FrameResult, b impl.FrameResult) bool {
	return a.Code == b.Code && a.Used == b.Used && sameFrame(a.Frame, b.Frame)
}

// holdReadFrame asks twice, looks whether the bytes are left alone, and whether they stay so when the first answer is written over.
func holdReadFrame(t *testing.T, what string, data []byte, want impl.FrameResult) {
	t.Helper()
	given := givenBytes(data)
	kept := slices.Clone(given[:cap(given)])
	// The wanted payload may be a piece of the bytes that are handed in.
	want.Frame.Payload = slices.Clone(want.Frame.Payload)
	got, again := impl.ReadFrame(given), impl.ReadFrame(given)
	if !sameFrameResult(got, want) {
		t.Errorf("%s: ReadFrame of %d bytes %s is %s, want %s", what, len(data), brief(data), brief(got), brief(want))
	}
	if got.Code != impl.OK && (got.Used != 0 || got.Frame.Kind != 0 || len(got.Frame.Payload) != 0) {
		t.Errorf("%s: code %d with a frame", what, got.Code)
	}
	spoilBytes(got.Frame.Payload)
	if !sameFrameResult(again, want) {
		t.Errorf("%s: ReadFrame of %d bytes %s is %s when asked again, want %s", what, len(data), brief(data), brief(again), brief(want))
	}
	if !slices.Equal(given[:cap(given)], kept) {
		t.Errorf("%s: ReadFrame changes %s, or shares memory with it", what, brief(data))
	}
}

func drawnFrame(draw *numbers, count int) impl.Frame {
	return impl.Frame{Kind: draw.below(256), Payload: drawnBytes(draw, count)}
}

func TestReadFrameOfWhatWasWritten(t *testing.T) {
	draw := numbers{state: 1710}
	for _, count := range []int{0, 1, 2, 5, 255, 256, 257, 768, 999, 1000} {
		for kind := int64(0); kind < 256; kind += 51 {
			f := impl.Frame{Kind: kind, Payload: drawnBytes(&draw, count)}
			data := impl.WriteFrame(f).Bytes
			holdReadFrame(t, "alone", data, toldFrame(f))
			for _, more := range []int{1, 2, 7, 1000, 100000 - len(data)} {
				holdReadFrame(t, "with bytes behind it", slices.Concat(data, drawnBytes(&draw, more)), toldFrame(f))
				holdReadFrame(t, "with noughts behind it", slices.Concat(data, make([]byte, more)), toldFrame(f))
			}
			holdReadFrame(t, "twice", slices.Concat(data, data), toldFrame(f))
			holdReadFrame(t, "one byte too late", slices.Concat([]byte{0x5A}, data), noFrame(impl.ErrText))
		}
	}
}

func TestReadFrameOfEveryLength(t *testing.T) {
	draw := numbers{state: 1711}
	for count := range 1001 {
		f := drawnFrame(&draw, count)
		got := impl.ReadFrame(impl.WriteFrame(f).Bytes)
		if !sameFrameResult(got, toldFrame(f)) {
			t.Errorf("a payload of %d bytes: %s", count, brief(got))
		}
	}
}

func TestReadFrameOfFewBytes(t *testing.T) {
	holdReadFrame(t, "nil", nil, noFrame(impl.ErrText))
	whole := writtenByWords(0, nil)
	for count := range 7 {
		holdReadFrame(t, "few", whole[:count], noFrame(impl.ErrText))
		holdReadFrame(t, "noughts", make([]byte, count), noFrame(impl.ErrText))
		holdReadFrame(t, "255", slices.Repeat([]byte{255}, count), noFrame(impl.ErrText))
	}
	holdReadFrame(t, "seven", whole, toldFrame(frameOf(0)))
}

func TestReadFrameThatIsCutOff(t *testing.T) {
	draw := numbers{state: 1712}
	for _, count := range []int{0, 1, 2, 250, 256, 1000} {
		data := impl.WriteFrame(drawnFrame(&draw, count)).Bytes
		for _, short := range []int{1, 2, 3, count, count + 1, count + 2, count + 6} {
			if short > 0 {
				holdReadFrame(t, "cut off", data[:len(data)-short], noFrame(impl.ErrText))
			}
		}
	}
	data := impl.WriteFrame(drawnFrame(&draw, 40)).Bytes
	for count := range data {
		holdReadFrame(t, "cut off", data[:count], noFrame(impl.ErrText))
	}
}

func TestReadFrameWithoutSync(t *testing.T) {
	for b := range 256 {
		data := writtenByWords(7, []byte("light"))
		if b != 0x5A {
			data[0] = byte(b)
			holdReadFrame(t, "first byte", data, noFrame(impl.ErrText))
		}
		data[0], data[1] = 0x5A, byte(b)
		if b != 0xA5 {
			holdReadFrame(t, "second byte", data, noFrame(impl.ErrText))
		}
	}
	data := writtenByWords(7, []byte("light"))
	data[0], data[1] = 0xA5, 0x5A
	holdReadFrame(t, "changed about", data, noFrame(impl.ErrText))
	holdReadFrame(t, "none", data[2:], noFrame(impl.ErrText))
}

// TestReadFrameOfLengths: all lengths that two bytes tell, with as many bytes and a right sum behind them.
func TestReadFrameOfLengths(t *testing.T) {
	for _, length := range []int{0, 1, 999, 1000, 1001, 1002, 1023, 1024, 2000, 4096, 32767, 32768, 65534, 65535} {
		data := writtenByWords(7, make([]byte, length))
		want := noFrame(impl.ErrText)
		if length <= 1000 {
			want = toldFrame(impl.Frame{Kind: 7, Payload: make([]byte, length)})
		}
		holdReadFrame(t, "length", data, want)
		holdReadFrame(t, "with bytes behind it", slices.Concat(data, make([]byte, 5)), want)
		holdReadFrame(t, "one byte too few", data[:len(data)-1], noFrame(impl.ErrText))
	}
}

// TestReadFrameOfTurnedBits: a wrong bit of kind, payload or sum is seen by the sum, one of FrameSync ahead of it.
func TestReadFrameOfTurnedBits(t *testing.T) {
	draw := numbers{state: 1713}
	for _, count := range []int{0, 1, 5, 300, 1000} {
		f := drawnFrame(&draw, count)
		data := impl.WriteFrame(f).Bytes
		for bit := range 8 * len(data) {
			turned := slices.Clone(data)
			turned[bit/8] ^= 1 << (bit % 8)
			want := noFrame(impl.ErrForm)
			switch at := bit / 8; {
			case at < 2:
				want = noFrame(impl.ErrText)
			case at == 3 || at == 4:
				want = readByWord(turned)
			}
			if want.Code == impl.OK {
				t.Fatalf("bit %d of %d bytes is not seen", bit, len(data))
			}
			if count < 300 {
				holdReadFrame(t, "turned", turned, want)
			} else if got := impl.ReadFrame(turned); !sameFrameResult(got, want) {
				t.Errorf("bit %d of %d bytes turned: %s", bit, len(data), brief(got))
			}
		}
		holdReadFrame(t, "right", data, toldFrame(f))
	}
}

// TestReadFrameByWords: bytes that are nearly frames, by a change or two.
func TestReadFrameByWords(t *testing.T) {
	draw := numbers{state: 1714}
	codes := map[int64]int{}
	for range 4000 {
		data := impl.WriteFrame(drawnFrame(&draw, int(draw.below(12)))).Bytes
		for range draw.below(3) {
			data[draw.below(int64(len(data)))] = byte(draw.below(4))
		}
		data = append(data, drawnBytes(&draw, int(draw.below(9)))...)
		data = data[:int64(len(data))-draw.below(6)]
		want := readByWord(data)
		codes[want.Code]++
		holdReadFrame(t, "drawn", data, want)
	}
	for _, code := range []int64{impl.OK, impl.ErrText, impl.ErrForm} {
		if codes[code] < 100 {
			t.Error("too few of a code", codes)
		}
	}
}

func TestReadFrameOfTooManyBytes(t *testing.T) {
	for _, data := range tooLong() {
		holdReadFrame(t, "too many", data, noFrame(impl.ErrMany))
		copy(data, writtenByWords(7, []byte("light")))
		holdReadFrame(t, "too many behind a frame", data, noFrame(impl.ErrMany))
		holdReadFrame(t, "as many as may be", data[:100000], toldFrame(frameOf(7, []byte("light")...)))
	}
	holdReadFrame(t, "as many noughts as may be", make([]byte, 100000), noFrame(impl.ErrText))
}
