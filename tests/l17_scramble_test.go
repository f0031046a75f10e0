package tests

import (
	"math"
	"math/bits"
	"slices"
	"testing"

	"loop.example/g00049/impl"
)

// turnsByWords are the bits that say what is turned: those of the seed go ahead, the lowest first, and each is whether the fifteenth and the fourteenth ahead of it are unlike.
func turnsByWords(seed int64, count int) []byte {
	row := []byte{}
	for place := range 15 {
		row = append(row, byte(seed>>place&1))
	}
	for range 8 * count {
		row = append(row, (row[len(row)-15]+row[len(row)-14])%2)
	}
	return row[15:]
}

func scrambledByWords(data []byte, seed int64) impl.FrameBytes {
	switch {
	case len(data) > 100000:
		return noBytes(impl.ErrMany)
	case seed < 1 || seed > 32767:
		return noBytes(impl.ErrForm)
	}
	mixed, turns := slices.Clone(data), turnsByWords(seed, len(data))
	for i, turn := range turns {
		mixed[i/8] ^= turn << (7 - i%8)
	}
	return impl.FrameBytes{Bytes: mixed}
}

func holdScramble(t *testing.T, what string, data []byte, seed int64, want impl.FrameBytes) {
	t.Helper()
	holdBytes(t, what+", Scramble", func(data []byte) impl.FrameBytes { return impl.Scramble(data, seed) }, data, want)
}

// wrongScrambles are no seeds of a scrambler.
func wrongScrambles() []int64 {
	return []int64{0, -1, -2, -32767, -32768, 32768, 32769, 65535, 65536, 65537, 1 << 32, 1<<32 + 1, math.MaxInt64, math.MaxInt64 - 1, math.MinInt64, math.MinInt64 + 1}
}

// TestScrambleTold: from 1 on the first bit is turned, then the 1 comes down from place 14 and turns two.
func TestScrambleTold(t *testing.T) {
	holdScramble(t, "seed 1", make([]byte, 4), 1, toldBytes(0b10000000, 0b00000011, 0, 0b00001010))
	holdScramble(t, "seed 1, ones", []byte{255, 255, 255, 255}, 1, toldBytes(0b01111111, 0b11111100, 255, 0b11110101))
	holdScramble(t, "seed 2", make([]byte, 2), 2, toldBytes(0b11000000, 0b00000010))
	holdScramble(t, "seed 3", make([]byte, 1), 3, toldBytes(0b01000000))
	holdScramble(t, "seed 16384", make([]byte, 2), 16384, toldBytes(0, 0b00000110))
	// Fifteen ones are alike; noughts come in above them, till the last 1 alone turns the fifteenth bit, and goes on as that of seed 1 does.
	holdScramble(t, "seed 32767", make([]byte, 4), 32767, toldBytes(0, 0b00000010, 0, 0b00001100))
	holdScramble(t, "one byte", []byte{0x5A}, 1, toldBytes(0xDA))
}

func TestScrambleOfEverySeed(t *testing.T) {
	data := []byte{0, 255, 0x5A, 0xA5, 1}
	for seed := int64(1); seed <= 32767; seed++ {
		want := scrambledByWords(data, seed)
		if got := impl.Scramble(data, seed); !sameFrameBytes(got, want) {
			t.Fatalf("seed %d: %v, want %v", seed, got, want)
		}
	}
	for _, seed := range []int64{1, 2, 3, 4, 255, 256, 16383, 16384, 16385, 32766, 32767} {
		holdScramble(t, "seed", data, seed, scrambledByWords(data, seed))
	}
}

func TestScrambleByWords(t *testing.T) {
	draw := numbers{state: 1740}
	for _, count := range []int{0, 1, 2, 3, 8, 15, 16, 100, 4096, 4097, 32767, 99999, 100000} {
		for range 3 {
			data, seed := drawnBytes(&draw, count), 1+draw.below(32767)
			holdScramble(t, "drawn", data, seed, scrambledByWords(data, seed))
		}
	}
	for _, seed := range []int64{1, 12345, 32767} {
		holdScramble(t, "nil", nil, seed, toldBytes())
		holdScramble(t, "none", []byte{}, seed, toldBytes())
	}
}

// TestScrambledTwice: with one seed what was comes back, with another one it does not.
func TestScrambledTwice(t *testing.T) {
	draw := numbers{state: 1741}
	for _, count := range []int{1, 2, 100, 100000} {
		for _, seed := range []int64{1, 2, 1 + draw.below(32767), 32766, 32767} {
			data := drawnBytes(&draw, count)
			once := impl.Scramble(data, seed)
			holdScramble(t, "twice", once.Bytes, seed, toldBytes(data...))
			if count > 2 && (slices.Equal(once.Bytes, data) || slices.Equal(impl.Scramble(once.Bytes, seed%32767+1).Bytes, data)) {
				t.Errorf("seed %d hides nothing of %s", seed, brief(data))
			}
		}
	}
}

// TestScramblePeriod: all seeds lie on one round of 32767 steps, so that after as many bytes the turns come again, half of them and a half turned.
func TestScramblePeriod(t *testing.T) {
	for _, seed := range []int64{1, 777, 32767} {
		turns := impl.Scramble(make([]byte, 100000), seed).Bytes
		if !slices.Equal(turns[:67233], turns[32767:]) {
			t.Errorf("seed %d: the turns don't come again", seed)
		}
		ones := 0
		for _, b := range turns[:32767] {
			ones += bits.OnesCount8(b)
		}
		if ones != 8*16384 {
			t.Errorf("seed %d: %d bits are turned of %d", seed, ones, 8*32767)
		}
	}
}

func TestScrambleOfWrongSeeds(t *testing.T) {
	for _, seed := range wrongScrambles() {
		for _, data := range [][]byte{nil, {}, {0}, {1, 2, 3}, make([]byte, 100000)} {
			holdScramble(t, "wrong seed", data, seed, noBytes(impl.ErrForm))
		}
		holdScramble(t, "wrong seed, too many", make([]byte, 100001), seed, noBytes(impl.ErrMany))
	}
	for _, data := range tooLong() {
		for _, seed := range []int64{1, 777, 32767, 0, 32768} {
			holdScramble(t, "too many", data, seed, noBytes(impl.ErrMany))
		}
	}
}
