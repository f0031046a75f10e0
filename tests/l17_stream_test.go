package tests

import (
	"slices"
	"testing"

	"loop.example/g00049/impl"
)

func toldStream(lost int64, frames ...impl.Frame) impl.StreamResult {
	return impl.StreamResult{Frames: frames, Lost: lost}
}

// streamByWords goes on from place to place, and cuts the bytes down to what a frame may have, so that it ends.
func streamByWords(data []byte) impl.StreamResult {
	if len(data) > 100000 {
		return impl.StreamResult{Code: impl.ErrMany}
	}
	stream := impl.StreamResult{}
	for at := 0; at < len(data); {
		read := readByWord(data[at:min(at+1007, len(data))])
		if read.Code != impl.OK {
			stream.Lost++
			at++
			continue
		}
		stream.Frames = append(stream.Frames, read.Frame)
		at += int(read.Used)
	}
	return stream
}

func sameStream(a impl.StreamResult, b impl.StreamResult) bool {
	return a.Code == b.Code && a.Lost == b.Lost && slices.EqualFunc(a.Frames, b.Frames, sameFrame)
}

func copyOfFrames(list []impl.Frame) []impl.Frame {
	twin := []impl.Frame{}
	for _, f := range list {
		twin = append(twin, impl.Frame{Kind: f.Kind, Payload: slices.Clone(f.Payload)})
	}
	return twin
}

// holdStream asks twice, writes over the first answer, and counts all bytes.
func holdStream(t *testing.T, what string, data []byte, want impl.StreamResult) {
	t.Helper()
	given := givenBytes(data)
	kept := slices.Clone(given[:cap(given)])
	want.Frames = copyOfFrames(want.Frames)
	got, again := impl.ReadStream(given), impl.ReadStream(given)
	if !sameStream(got, want) {
		t.Errorf("%s: ReadStream of %d bytes %s is %s, want %s", what, len(data), brief(data), brief(got), brief(want))
	}
	if got.Code != impl.OK && (len(got.Frames) != 0 || got.Lost != 0) {
		t.Errorf("%s: code %d with frames", what, got.Code)
	}
	counted := got.Lost
	for i := range got.Frames {
		counted += int64(len(got.Frames[i].Payload)) + 7
	}
	if got.Code == impl.OK && counted != int64(len(data)) {
		t.Errorf("%s: %d bytes are told of %d", what, counted, len(data))
	}
	for i := range got.Frames {
		spoilBytes(got.Frames[i].Payload)
		got.Frames[i].Kind = -1
	}
	if !sameStream(again, want) {
		t.Errorf("%s: ReadStream of %d bytes %s is %s when asked again, want %s", what, len(data), brief(data), brief(again), brief(want))
	}
	if !slices.Equal(given[:cap(given)], kept) {
		t.Errorf("%s: ReadStream changes %s, or shares memory with it", what, brief(data))
	}
}

func framesWritten(frames ...impl.Frame) []byte {
	data := []byte{}
	for _, f := range frames {
		data = append(data, impl.WriteFrame(f).Bytes...)
	}
	return data
}

// drawnNoise has no FrameSync, but pieces of it.
func drawnNoise(draw *numbers, count int64) []byte {
	data := []byte{}
	for range count {
		data = append(data, []byte{0x5A, 0, 0xFF, 0x5A, 7}[draw.below(5)])
	}
	return data
}

func TestReadStreamOfNoFrame(t *testing.T) {
	holdStream(t, "nil", nil, toldStream(0))
	holdStream(t, "none", []byte{}, toldStream(0))
	for count := range 30 {
		holdStream(t, "noughts", make([]byte, count), toldStream(int64(count)))
		holdStream(t, "halves of a sync", slices.Repeat([]byte{0x5A}, count), toldStream(int64(count)))
		holdStream(t, "syncs alone", slices.Repeat([]byte{0x5A, 0xA5}, count), toldStream(2*int64(count)))
	}
}

func TestReadStreamTold(t *testing.T) {
	one, two, empty := frameOf(3, []byte("light")...), frameOf(255, 0, 0x5A), frameOf(0)
	holdStream(t, "one", framesWritten(one), toldStream(0, one))
	holdStream(t, "three", framesWritten(one, two, empty), toldStream(0, one, two, empty))
	holdStream(t, "the same twice", framesWritten(one, one), toldStream(0, one, one))
	holdStream(t, "ahead", slices.Concat([]byte{1, 2}, framesWritten(one)), toldStream(2, one))
	holdStream(t, "between", slices.Concat(framesWritten(one), []byte{1, 2, 3}, framesWritten(two)), toldStream(3, one, two))
	holdStream(t, "behind", slices.Concat(framesWritten(one), []byte{1}), toldStream(1, one))
	holdStream(t, "all round", slices.Concat([]byte{9}, framesWritten(empty), []byte{9, 9}, framesWritten(two), []byte{9, 9, 9}), toldStream(6, empty, two))
	holdStream(t, "half a sync ahead", slices.Concat([]byte{0x5A}, framesWritten(one)), toldStream(1, one))
	holdStream(t, "a sync ahead", slices.Concat([]byte{0x5A, 0xA5}, framesWritten(one)), toldStream(2, one))
	holdStream(t, "a sync between", slices.Concat(framesWritten(two), []byte{0x5A, 0xA5, 0x5A}, framesWritten(one)), toldStream(3, two, one))
}

// TestReadStreamOfNoiseAnywhere: noise in which no frame begins is lost, and nothing else.
func TestReadStreamOfNoiseAnywhere(t *testing.T) {
	draw := numbers{state: 1720}
	for range 600 {
		data, frames, lost := []byte{}, []impl.Frame{}, int64(0)
		for range 1 + draw.below(6) {
			noise := drawnNoise(&draw, draw.below(3)*draw.below(10))
			f := drawnFrame(&draw, int(draw.below(3)*draw.below(30)))
			data, frames, lost = slices.Concat(data, noise, framesWritten(f)), append(frames, f), lost+int64(len(noise))
		}
		noise := drawnNoise(&draw, draw.below(20))
		holdStream(t, "drawn", append(data, noise...), toldStream(lost+int64(len(noise)), frames...))
	}
}

// TestReadStreamOfACutFrame: of a frame that is cut off at the end, or that lacks its beginning, all bytes are lost.
func TestReadStreamOfACutFrame(t *testing.T) {
	ahead, cut := frameOf(1, 1, 2, 3), frameOf(2, make([]byte, 50)...)
	data := framesWritten(cut)
	for count := range data {
		holdStream(t, "cut off", slices.Concat(framesWritten(ahead), data[:count]), toldStream(int64(count), ahead))
		holdStream(t, "begun late", slices.Concat(data[count+1:], framesWritten(ahead)), toldStream(int64(len(data)-count-1), ahead))
	}
	// A frame that stands within the bytes that are missing to another one is found.
	holdStream(t, "cut off, and one behind", slices.Concat(data[:20], framesWritten(ahead)), toldStream(20, ahead))
	holdStream(t, "cut off, and two behind", slices.Concat(data[:5], framesWritten(ahead, ahead)), toldStream(5, ahead, ahead))
}

// TestReadStreamOfAFrameWithinAFrame: a right outer one hides the inner one; with a wrong sum it is lost byte by byte, and the inner one is found.
func TestReadStreamOfAFrameWithinAFrame(t *testing.T) {
	inner := frameOf(7, []byte("within")...)
	for _, place := range []int{0, 1, 2, 30} {
		payload := slices.Concat(make([]byte, place), framesWritten(inner), make([]byte, 4))
		outer := frameOf(8, payload...)
		data := framesWritten(outer)
		holdStream(t, "hidden", data, toldStream(0, outer))
		lost := int64(len(data) - 13)
		for _, at := range []int{2, len(data) - 3, len(data) - 2, len(data) - 1} {
			wrong := slices.Clone(data)
			wrong[at] ^= 0x10
			holdStream(t, "a wrong sum", wrong, toldStream(lost, inner))
			holdStream(t, "a wrong sum, and one behind", slices.Concat(wrong, framesWritten(inner)), toldStream(lost, inner, inner))
		}
		for _, at := range []int{0, 1} {
			wrong := slices.Clone(data)
			wrong[at] ^= 1
			holdStream(t, "no sync", wrong, toldStream(lost, inner))
		}
		holdStream(t, "the sum's last byte missing", data[:len(data)-1], toldStream(lost-1, inner))
	}
	// The head of a frame that asks for more than is there, or for too much, holds up nothing.
	for _, head := range [][]byte{{0x5A, 0xA5, 1, 0, 20}, {0x5A, 0xA5, 1, 3, 0xE8}, {0x5A, 0xA5, 1, 3, 0xE9}, {0x5A, 0xA5, 1, 255, 255}, {0x5A, 0xA5, 1, 0, 0}, {0x5A, 0xA5, 1, 0}, {0x5A, 0xA5, 1}} {
		holdStream(t, "a wrong head", slices.Concat(head, framesWritten(inner)), toldStream(int64(len(head)), inner))
		holdStream(t, "a wrong head, and much behind", slices.Concat(head, framesWritten(inner), make([]byte, 1100)), toldStream(int64(len(head))+1100, inner))
	}
}

// TestReadStreamOfOneTurnedBit: whatever bit is turned, the frames behind it are found again.
func TestReadStreamOfOneTurnedBit(t *testing.T) {
	draw := numbers{state: 1721}
	frames := []impl.Frame{drawnFrame(&draw, 5), drawnFrame(&draw, 0), drawnFrame(&draw, 9), drawnFrame(&draw, 3)}
	data := framesWritten(frames...)
	from := 0
	for i, f := range frames {
		upTo := from + len(f.Payload) + 7
		for bit := 8 * from; bit < 8*upTo; bit++ {
			turned := slices.Clone(data)
			turned[bit/8] ^= 1 << (bit % 8)
			want := toldStream(int64(upTo-from), slices.Concat(frames[:i], frames[i+1:])...)
			holdStream(t, "turned", turned, want)
		}
		from = upTo
	}
}

func TestReadStreamByWords(t *testing.T) {
	draw := numbers{state: 1722}
	for range 1500 {
		data := []byte{}
		for range draw.below(8) {
			switch draw.below(4) {
			case 0:
				data = append(data, drawnNoise(&draw, draw.below(6))...)
			case 1:
				data = append(data, 0x5A, 0xA5, byte(draw.below(256)), 0, byte(draw.below(40)))
			default:
				data = append(data, framesWritten(drawnFrame(&draw, int(draw.below(20))))...)
			}
		}
		for range draw.below(3) * int64(min(len(data), 1)) {
			data[draw.below(int64(len(data)))] = byte(draw.next())
		}
		holdStream(t, "drawn", data, streamByWords(data))
	}
}

func TestReadStreamOfManyBytes(t *testing.T) {
	draw := numbers{state: 1723}
	holdStream(t, "noughts", make([]byte, 100000), toldStream(100000))
	data, frames := []byte{}, []impl.Frame{}
	for len(data)+1007 <= 100000 {
		f := drawnFrame(&draw, 1000)
		data, frames = append(data, framesWritten(f)...), append(frames, f)
	}
	holdStream(t, "long frames", data, toldStream(0, frames...))
	rest := make([]byte, 100000-len(data))
	holdStream(t, "long frames and noughts", slices.Concat(data, rest), toldStream(int64(len(rest)), frames...))
	holdStream(t, "noughts and long frames", slices.Concat(rest, data), toldStream(int64(len(rest)), frames...))
	holdStream(t, "too many", slices.Concat(data, rest, []byte{0}), impl.StreamResult{Code: impl.ErrMany})
	empty := slices.Repeat([]impl.Frame{frameOf(0)}, 14285)
	holdStream(t, "as many frames as may be", append(framesWritten(empty...), 1, 2, 3, 4, 5), toldStream(5, empty...))
	for _, long := range tooLong() {
		holdStream(t, "too many", long, impl.StreamResult{Code: impl.ErrMany})
	}
}

// TestReadStreamOfManyHeads: heads that ask for as much as may be, of which each is looked at and lost.
func TestReadStreamOfManyHeads(t *testing.T) {
	heads := slices.Repeat([]byte{0x5A, 0xA5, 1, 3}, 25000)
	holdStream(t, "heads", heads, toldStream(100000))
	last := frameOf(9, 9)
	copy(heads[100000-8:], framesWritten(last))
	holdStream(t, "heads, and a frame at the end", heads, toldStream(100000-8, last))
}

// TestReadStreamHasItsOwnLists: no two payloads of an answer share memory, and none with the bytes.
func TestReadStreamHasItsOwnLists(t *testing.T) {
	draw := numbers{state: 1724}
	frames := []impl.Frame{drawnFrame(&draw, 3), drawnFrame(&draw, 0), drawnFrame(&draw, 20), drawnFrame(&draw, 1)}
	data := framesWritten(frames...)
	payloads := [][]byte{}
	for range 2 {
		for _, f := range impl.ReadStream(data).Frames {
			payloads = append(payloads, f.Payload)
		}
		payloads = append(payloads, impl.ReadFrame(data).Frame.Payload)
	}
	apart(t, payloads, [][]byte{data})
}
