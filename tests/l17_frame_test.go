package tests

import (
	"math"
	"slices"
	"testing"

	"loop.example/g00049/impl"
)

func noBytes(code int64) impl.FrameBytes {
	return impl.FrameBytes{Code: code}
}

func toldBytes(list ...byte) impl.FrameBytes {
	return impl.FrameBytes{Bytes: list}
}

// givenBytes is a copy with room behind its end; nil stays nil.
func givenBytes(data []byte) []byte {
	if data == nil {
		return nil
	}
	return roomy(data, 0xE7)
}

// spoilBytes writes over all that a list has, and over the room behind its end.
func spoilBytes(data []byte) {
	all := data[:cap(data)]
	for i := range all {
		all[i] ^= 0xFF
	}
}

func sameFrameBytes(a impl.FrameBytes, b impl.FrameBytes) bool {
	return a.Code == b.Code && slices.Equal(a.Bytes, b.Bytes)
}

// holdBytes asks twice, looks whether the bytes are left alone, and whether they stay so when the first answer is written over.
func holdBytes(t *testing.T, what string, ask func(data []byte) impl.FrameBytes, data []byte, want impl.FrameBytes) {
	t.Helper()
	given := givenBytes(data)
	kept := slices.Clone(given[:cap(given)])
	got, again := ask(given), ask(given)
	if !sameFrameBytes(got, want) {
		t.Errorf("%s: of %d bytes %s it is %s, want %s", what, len(data), brief(data), brief(got), brief(want))
	}
	if got.Code != impl.OK && len(got.Bytes) != 0 {
		t.Errorf("%s: code %d with bytes", what, got.Code)
	}
	spoilBytes(got.Bytes)
	if !sameFrameBytes(again, want) {
		t.Errorf("%s: of %d bytes %s it is %s when asked again, want %s", what, len(data), brief(data), brief(again), brief(want))
	}
	if !slices.Equal(given[:cap(given)], kept) {
		t.Errorf("%s: %d bytes %s are changed, or share memory with the answer", what, len(data), brief(data))
	}
}

func drawnBytes(draw *numbers, count int) []byte {
	data := make([]byte, count)
	for i := range data {
		data[i] = byte(draw.next() >> 17)
	}
	return data
}

// tooLong are lists of more bytes than any call takes.
func tooLong() [][]byte {
	return [][]byte{make([]byte, 100001), make([]byte, 100002), slices.Repeat([]byte{0x5A, 0xA5, 1, 0, 0}, 30000)}
}

// checkSumByWords divides one bit after the other, the bits of 65535 mixed into the first sixteen, by the polynomial of 17 bits that 65536 and 4129 are.
func checkSumByWords(data []byte) int64 {
	divided := make([]bool, 8*len(data)+16)
	for i := range 8 * len(data) {
		divided[i] = data[i/8]>>(7-i%8)&1 == 1
	}
	for i := range 16 {
		divided[i] = !divided[i]
	}
	for i := range 8 * len(data) {
		if divided[i] {
			for _, place := range []int{0, 4, 11, 16} { // the bits 16, 12, 5 and 0 of 65536 + 4129
				divided[i+place] = !divided[i+place]
			}
		}
	}
	sum := int64(0)
	for _, bit := range divided[8*len(data):] {
		sum *= 2
		if bit {
			sum++
		}
	}
	return sum
}

func holdSum(t *testing.T, what string, data []byte, want int64) {
	t.Helper()
	given := givenBytes(data)
	kept := slices.Clone(given[:cap(given)])
	for range 2 {
		if got := impl.CheckSum(given); got != want {
			t.Errorf("%s: CheckSum of %d bytes %s is %d, want %d", what, len(data), brief(data), got, want)
		}
	}
	if !slices.Equal(given[:cap(given)], kept) {
		t.Errorf("%s: CheckSum changes %d bytes %s", what, len(data), brief(data))
	}
}

// writtenByWords puts the bytes down one by one.
func writtenByWords(kind byte, payload []byte) []byte {
	length := len(payload)
	data := []byte{0x5A, 0xA5, kind, byte(length / 256), byte(length % 256)}
	data = append(data, payload...)
	sum := checkSumByWords(data[2:])
	return append(data, byte(sum/256), byte(sum%256))
}

func frameOf(kind int64, payload ...byte) impl.Frame {
	return impl.Frame{Kind: kind, Payload: payload}
}

func sameFrame(a impl.Frame, b impl.Frame) bool {
	return a.Kind == b.Kind && slices.Equal(a.Payload, b.Payload)
}

func holdWrite(t *testing.T, what string, f impl.Frame, want impl.FrameBytes) {
	t.Helper()
	holdBytes(t, what+", WriteFrame", func(payload []byte) impl.FrameBytes {
		return impl.WriteFrame(impl.Frame{Kind: f.Kind, Payload: payload})
	}, f.Payload, want)
}

// wrongKinds are no bytes.
func wrongKinds() []int64 {
	return []int64{-1, -2, -128, -255, -256, 256, 257, 511, 512, 1000, 65535, 65536, 1 << 32, 1<<32 + 7, math.MaxInt64, math.MaxInt64 - 1, math.MinInt64, math.MinInt64 + 7}
}

func TestLinkBounds(t *testing.T) {
	if impl.FrameSync != 23205 || impl.MaxPayload != 1000 || impl.MaxShares != 60 {
		t.Error(impl.FrameSync, impl.MaxPayload, impl.MaxShares)
	}
}

// TestCheckSumTold: 65535 and a byte 255 leave 255, which moves up eight places without a carry; a second one leaves nothing.
func TestCheckSumTold(t *testing.T) {
	holdSum(t, "nine digits", []byte("123456789"), 10673)
	holdSum(t, "nil", nil, 65535)
	holdSum(t, "none", []byte{}, 65535)
	holdSum(t, "255", []byte{255}, 65280)
	holdSum(t, "0", []byte{0}, 0xE1F0)
	holdSum(t, "0 and 0", []byte{0, 0}, 0x1D0F)
	holdSum(t, "255 twice", []byte{255, 255}, 0)
	holdSum(t, "nothing goes on", []byte{255, 255, 0, 0, 0}, 0)
	holdSum(t, "a carry at the end", []byte{255, 255, 1}, 4129)
	holdSum(t, "a carry at the end", []byte{255, 254}, 4129)
	holdSum(t, "a carry, and twice that", []byte{255, 255, 2}, 8258)
	holdSum(t, "two carries", []byte{255, 255, 3}, 8258^4129)
	holdSum(t, "a letter", []byte("A"), 0xB915)
}

func TestCheckSumByWords(t *testing.T) {
	draw := numbers{state: 1700}
	for a := range 256 {
		holdSum(t, "one", []byte{byte(a)}, checkSumByWords([]byte{byte(a)}))
		for _, b := range []byte{0, 1, 127, 128, 255} {
			holdSum(t, "two", []byte{byte(a), b}, checkSumByWords([]byte{byte(a), b}))
			holdSum(t, "three", []byte{b, byte(a), 255}, checkSumByWords([]byte{b, byte(a), 255}))
		}
	}
	for count := range 300 {
		data := drawnBytes(&draw, count)
		holdSum(t, "drawn", data, checkSumByWords(data))
	}
}

func TestCheckSumOfManyBytes(t *testing.T) {
	draw := numbers{state: 1701}
	for _, count := range []int{1003, 65535, 65536, 99999, 100000} {
		for _, data := range [][]byte{drawnBytes(&draw, count), make([]byte, count), slices.Repeat([]byte{255}, count)} {
			holdSum(t, "many", data, checkSumByWords(data))
		}
	}
	for _, data := range tooLong() {
		holdSum(t, "too many", data, 2)
	}
}

// TestCheckSumSeesEveryBit: a sum hangs on each bit, and its bits are turned as those of the change alone are.
func TestCheckSumSeesEveryBit(t *testing.T) {
	draw := numbers{state: 1702}
	for _, count := range []int{1, 2, 3, 20, 1003} {
		data := drawnBytes(&draw, count)
		sum, zero := impl.CheckSum(data), impl.CheckSum(make([]byte, count))
		for bit := range 8 * count {
			change := make([]byte, count)
			change[bit/8] = 1 << (bit % 8)
			turned := slices.Clone(data)
			turned[bit/8] ^= 1 << (bit % 8)
			if got := impl.CheckSum(turned); got == sum || got != sum^zero^impl.CheckSum(change) {
				t.Errorf("bit %d of %d bytes: the sum is %d, was %d", bit, count, got, sum)
			}
		}
	}
}

func TestWriteFrameTold(t *testing.T) {
	light := toldBytes(0x5A, 0xA5, 3, 0, 5, 'l', 'i', 'g', 'h', 't')
	sum := checkSumByWords(light.Bytes[2:])
	light.Bytes = append(light.Bytes, byte(sum>>8), byte(sum))
	holdWrite(t, "light", frameOf(3, []byte("light")...), light)
	holdWrite(t, "empty", frameOf(0), toldBytes(0x5A, 0xA5, 0, 0, 0, 0xCC, 0x9C))
	holdWrite(t, "nil", impl.Frame{Kind: 0, Payload: nil}, toldBytes(0x5A, 0xA5, 0, 0, 0, 0xCC, 0x9C))
	holdWrite(t, "255", impl.Frame{Kind: 255, Payload: []byte{}}, impl.FrameBytes{Bytes: writtenByWords(255, nil)})
}

func TestWriteFrameByteByByte(t *testing.T) {
	draw := numbers{state: 1703}
	for _, count := range []int{0, 1, 2, 255, 256, 257, 511, 512, 767, 768, 998, 999, 1000} {
		for _, kind := range []int64{0, 1, 127, 128, 254, 255, draw.below(256)} {
			payload := drawnBytes(&draw, count)
			holdWrite(t, "drawn", impl.Frame{Kind: kind, Payload: payload}, impl.FrameBytes{Bytes: writtenByWords(byte(kind), payload)})
			got := impl.WriteFrame(impl.Frame{Kind: kind, Payload: payload}).Bytes
			if len(got) != count+7 {
				t.Fatalf("a payload of %d bytes: %d bytes", count, len(got))
			}
			if int64(got[0])*256+int64(got[1]) != impl.FrameSync || int64(got[2]) != kind || int(got[3])*256+int(got[4]) != count || !slices.Equal(got[5:5+count], payload) {
				t.Errorf("kind %d, payload %s: bytes %s", kind, brief(payload), brief(got))
			}
			if int64(got[count+5])*256+int64(got[count+6]) != impl.CheckSum(got[2:5+count]) {
				t.Errorf("kind %d, payload %s: another sum in %s", kind, brief(payload), brief(got))
			}
		}
	}
	for kind := range int64(256) {
		holdWrite(t, "every kind", frameOf(kind, 7), impl.FrameBytes{Bytes: writtenByWords(byte(kind), []byte{7})})
	}
	for count := range 1001 {
		payload := drawnBytes(&draw, count)
		if got := impl.WriteFrame(impl.Frame{Kind: 9, Payload: payload}); got.Code != impl.OK || !slices.Equal(got.Bytes, writtenByWords(9, payload)) {
			t.Errorf("a payload of %d bytes: %s", count, brief(got))
		}
	}
}

func TestWriteFrameThatIsNotRight(t *testing.T) {
	for _, kind := range wrongKinds() {
		for _, count := range []int{0, 1, 1000, 1001, 100000} {
			holdWrite(t, "kind", impl.Frame{Kind: kind, Payload: make([]byte, count)}, noBytes(impl.ErrForm))
		}
		holdWrite(t, "kind, nil", impl.Frame{Kind: kind}, noBytes(impl.ErrForm))
	}
	for _, count := range []int{1001, 1002, 2000, 65536, 65536 + 5, 99999, 100000} {
		for _, kind := range []int64{0, 9, 255} {
			holdWrite(t, "payload", impl.Frame{Kind: kind, Payload: make([]byte, count)}, noBytes(impl.ErrForm))
		}
	}
	for _, payload := range tooLong() {
		for _, kind := range append(wrongKinds(), 0, 9, 255) {
			holdWrite(t, "too long", impl.Frame{Kind: kind, Payload: payload}, noBytes(impl.ErrMany))
		}
	}
}
