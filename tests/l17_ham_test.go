package tests

import (
	"math/bits"
	"slices"
	"testing"

	"loop.example/g00049/impl"
)

// codeWords are the bytes of the sixteen numbers of four bits, each bit reckoned from the digits by itself.
func codeWords() [16]byte {
	words := [16]byte{}
	for number := range words {
		d1, d2, d3, d4 := number/8, number/4%2, number/2%2, number%2
		seven := []int{(d1 + d2 + d4) % 2, (d1 + d3 + d4) % 2, d1, (d2 + d3 + d4) % 2, d2, d3, d4}
		ones := 0
		for _, bit := range seven {
			words[number] = words[number]*2 + byte(bit)
			ones += bit
		}
		words[number] = words[number]*2 + byte(ones%2)
	}
	return words
}

// nearestWord is the number whose byte differs in the fewest bits, and how many these are: any two differ in four at least, so at two there is no nearest one.
func nearestWord(b byte) (int, int) {
	nearest, least := 0, 9
	for number, word := range codeWords() {
		if unlike := bits.OnesCount8(b ^ word); unlike < least {
			nearest, least = number, unlike
		}
	}
	return nearest, least
}

func encodedByWords(data []byte) []byte {
	words, coded := codeWords(), []byte{}
	for _, b := range data {
		coded = append(coded, words[b/16], words[b%16])
	}
	return coded
}

func noBlock(code int64) impl.BlockResult {
	return impl.BlockResult{Code: code}
}

func toldBlock(mends int64, list ...byte) impl.BlockResult {
	return impl.BlockResult{Bytes: list, Mends: mends}
}

// decodedByWords looks for the nearest byte of the sixteen.
func decodedByWords(data []byte) impl.BlockResult {
	switch {
	case len(data) > 100000:
		return noBlock(impl.ErrMany)
	case len(data)%2 == 1:
		return noBlock(impl.ErrForm)
	}
	block := impl.BlockResult{}
	for i := 0; i < len(data); i += 2 {
		high, wrong := nearestWord(data[i])
		low, alsoWrong := nearestWord(data[i+1])
		if wrong > 1 || alsoWrong > 1 {
			return noBlock(impl.ErrZero)
		}
		block.Bytes = append(block.Bytes, byte(16*high+low))
		block.Mends += int64(wrong + alsoWrong)
	}
	return block
}

func sameBlock(a impl.BlockResult, b impl.BlockResult) bool {
	return a.Code == b.Code && a.Mends == b.Mends && slices.Equal(a.Bytes, b.Bytes)
}

func holdEncode(t *testing.T, what string, data []byte, want impl.FrameBytes) {
	t.Helper()
	holdBytes(t, what+", HamEncode", impl.HamEncode, data, want)
}

// holdDecode asks twice, looks whether the bytes are left alone, and whether they stay so when the first answer is written over.
func holdDecode(t *testing.T, what string, data []byte, want impl.BlockResult) {
	t.Helper()
	given := givenBytes(data)
	kept := slices.Clone(given[:cap(given)])
	got, again := impl.HamDecode(given), impl.HamDecode(given)
	if !sameBlock(got, want) {
		t.Errorf("%s: HamDecode of %d bytes %s is %s, want %s", what, len(data), brief(data), brief(got), brief(want))
	}
	if got.Code != impl.OK && (len(got.Bytes) != 0 || got.Mends != 0) {
		t.Errorf("%s: code %d with bytes or mends", what, got.Code)
	}
	spoilBytes(got.Bytes)
	if !sameBlock(again, want) {
		t.Errorf("%s: HamDecode of %d bytes %s is %s when asked again, want %s", what, len(data), brief(data), brief(again), brief(want))
	}
	if !slices.Equal(given[:cap(given)], kept) {
		t.Errorf("%s: HamDecode changes %s, or shares memory with it", what, brief(data))
	}
}

func everyByte() []byte {
	list := make([]byte, 256)
	for i := range list {
		list[i] = byte(i)
	}
	return list
}

func TestHamEncodeTold(t *testing.T) {
	holdEncode(t, "AB", []byte{0xAB}, toldBytes(0xB4, 0x66))
	holdEncode(t, "noughts", []byte{0}, toldBytes(0, 0))
	holdEncode(t, "ones", []byte{0xFF}, toldBytes(0xFF, 0xFF))
	// One bit each: 8 is p1 p2 d1 and the parity of three, 4 is p1 p3 d2, 2 is p2 p3 d3, 1 is all three and d4.
	holdEncode(t, "8 and 4", []byte{0x84}, toldBytes(0b11100001, 0b10011001))
	holdEncode(t, "2 and 1", []byte{0x21}, toldBytes(0b01010101, 0b11010010))
	holdEncode(t, "1 and 2", []byte{0x12}, toldBytes(0b11010010, 0b01010101))
	holdEncode(t, "two", []byte{0xAB, 0x10}, toldBytes(0xB4, 0x66, 0b11010010, 0))
}

func TestHamEncodeOfEveryByte(t *testing.T) {
	for _, b := range everyByte() {
		holdEncode(t, "one", []byte{b}, impl.FrameBytes{Bytes: encodedByWords([]byte{b})})
		coded := impl.HamEncode([]byte{b}).Bytes
		if bits.OnesCount8(coded[0])%2 != 0 || bits.OnesCount8(coded[1])%2 != 0 {
			t.Errorf("%x becomes %x, of odd parity", b, coded)
		}
	}
	holdEncode(t, "all", everyByte(), impl.FrameBytes{Bytes: encodedByWords(everyByte())})
}

func TestHamEncodeOfManyBytes(t *testing.T) {
	draw := numbers{state: 1730}
	holdEncode(t, "nil", nil, toldBytes())
	holdEncode(t, "none", []byte{}, toldBytes())
	for _, count := range []int{1, 2, 3, 17, 1000, 49999, 50000, 50001, 99999, 100000} {
		data := drawnBytes(&draw, count)
		holdEncode(t, "drawn", data, impl.FrameBytes{Bytes: encodedByWords(data)})
	}
	for _, data := range tooLong() {
		holdEncode(t, "too many", data, noBytes(impl.ErrMany))
	}
}

func TestHamDecodeTold(t *testing.T) {
	holdDecode(t, "nil", nil, toldBlock(0))
	holdDecode(t, "none", []byte{}, toldBlock(0))
	holdDecode(t, "right", []byte{0xB4, 0x66}, toldBlock(0, 0xAB))
	holdDecode(t, "a bit of the first", []byte{0xB4 ^ 8, 0x66}, toldBlock(1, 0xAB))
	holdDecode(t, "a bit of the second", []byte{0xB4, 0x66 ^ 0x40}, toldBlock(1, 0xAB))
	holdDecode(t, "a bit of both", []byte{0xB4 ^ 1, 0x66 ^ 0x80}, toldBlock(2, 0xAB))
	holdDecode(t, "two bits of the first", []byte{0xB4 ^ 3, 0x66}, noBlock(impl.ErrZero))
	holdDecode(t, "two bits of the second", []byte{0xB4, 0x66 ^ 0x81}, noBlock(impl.ErrZero))
	holdDecode(t, "two and one", []byte{0xB4 ^ 0x18, 0x66 ^ 1}, noBlock(impl.ErrZero))
	holdDecode(t, "one and two", []byte{0xB4 ^ 1, 0x66 ^ 0x18}, noBlock(impl.ErrZero))
	// Three wrong bits are one of another number.
	holdDecode(t, "three bits of nought", []byte{0b11100000, 0}, toldBlock(1, 0x80))
}

// TestHamDecodeOfEveryByte: all 256 bytes, right, mended or told, as the first one and as the second one.
func TestHamDecodeOfEveryByte(t *testing.T) {
	counts := [3]int{}
	for _, b := range everyByte() {
		number, wrong := nearestWord(b)
		counts[wrong]++
		for other, word := range codeWords() {
			first, second := toldBlock(int64(wrong), byte(16*number+other)), toldBlock(int64(wrong), byte(16*other+number))
			if wrong == 2 {
				first, second = noBlock(impl.ErrZero), noBlock(impl.ErrZero)
			}
			holdDecode(t, "first", []byte{b, word}, first)
			holdDecode(t, "second", []byte{word, b}, second)
		}
	}
	if counts != [3]int{16, 128, 112} {
		t.Error(counts)
	}
}

func TestHamDecodeOfEveryTwoBytes(t *testing.T) {
	for _, a := range everyByte() {
		for _, b := range everyByte() {
			if got, want := impl.HamDecode([]byte{a, b}), decodedByWords([]byte{a, b}); !sameBlock(got, want) {
				t.Errorf("HamDecode(%x, %x) = %v, want %v", a, b, got, want)
			}
		}
	}
}

// TestHamMendsOneBit: each single bit of what was encoded, turned, is mended and counted; each two of one byte are told.
func TestHamMendsOneBit(t *testing.T) {
	for _, b := range everyByte() {
		coded := impl.HamEncode([]byte{b}).Bytes
		holdDecode(t, "as it was", coded, toldBlock(0, b))
		for bit := range 16 {
			turned := slices.Clone(coded)
			turned[bit/8] ^= 1 << (bit % 8)
			holdDecode(t, "one bit", turned, toldBlock(1, b))
			for other := range 16 {
				if other == bit {
					continue
				}
				again := slices.Clone(turned)
				again[other/8] ^= 1 << (other % 8)
				want := toldBlock(2, b)
				if other/8 == bit/8 {
					want = noBlock(impl.ErrZero)
				}
				if got := impl.HamDecode(again); !sameBlock(got, want) {
					t.Errorf("%x, bits %d and %d turned: %v, want %v", b, bit, other, got, want)
				}
			}
		}
	}
}

func TestHamDecodeOfManyBytes(t *testing.T) {
	draw := numbers{state: 1731}
	for _, count := range []int{1, 2, 3, 500, 49999, 50000} {
		data := drawnBytes(&draw, count)
		coded := impl.HamEncode(data).Bytes
		holdDecode(t, "as it was", coded, toldBlock(0, data...))
		for i := range coded {
			coded[i] ^= 1 << draw.below(8)
		}
		holdDecode(t, "one bit a byte", coded, toldBlock(int64(2*count), data...))
		mended := int64(0)
		coded = impl.HamEncode(data).Bytes
		for i := range coded {
			if draw.below(3) == 0 {
				coded[i] ^= 1 << draw.below(8)
				mended++
			}
		}
		holdDecode(t, "a bit of some bytes", coded, toldBlock(mended, data...))
		for _, at := range []int{0, 1, count, 2*count - 1} {
			wrong := impl.HamEncode(data).Bytes
			wrong[at] ^= 0x21
			holdDecode(t, "two bits of one byte", wrong, noBlock(impl.ErrZero))
		}
	}
}

func TestHamDecodeOfAnOddNumber(t *testing.T) {
	draw := numbers{state: 1732}
	for _, count := range []int{1, 3, 5, 999, 50001, 99999} {
		holdDecode(t, "noughts", make([]byte, count), noBlock(impl.ErrForm))
		holdDecode(t, "two wrong bits", slices.Repeat([]byte{3}, count), noBlock(impl.ErrForm))
		holdDecode(t, "encoded", impl.HamEncode(drawnBytes(&draw, 50000)).Bytes[:count], noBlock(impl.ErrForm))
	}
	for _, data := range tooLong() {
		holdDecode(t, "too many", data, noBlock(impl.ErrMany))
		for i := range data {
			data[i] = 3
		}
		holdDecode(t, "too many, two wrong bits", data, noBlock(impl.ErrMany))
	}
	holdDecode(t, "as many as may be", make([]byte, 100000), toldBlock(0, make([]byte, 50000)...))
}

func TestHamDecodeByWords(t *testing.T) {
	draw := numbers{state: 1733}
	for range 1000 {
		data := impl.HamEncode(drawnBytes(&draw, int(draw.below(8)))).Bytes
		for range draw.below(4) * int64(min(len(data), 1)) {
			data[draw.below(int64(len(data)))] ^= 1 << draw.below(8)
		}
		holdDecode(t, "drawn", data, decodedByWords(data))
		data = drawnBytes(&draw, int(draw.below(5)))
		holdDecode(t, "any bytes", data, decodedByWords(data))
	}
}
