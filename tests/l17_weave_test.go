package tests

import (
	"math"
	"slices"
	"testing"

	"loop.example/g00049/impl"
)

func weaveCode(data []byte, width int64) int64 {
	switch {
	case len(data) > 100000:
		return impl.ErrMany
	case width < 1 || width > 1000 || int64(len(data))%width != 0:
		return impl.ErrForm
	}
	return impl.OK
}

// tableOf has as many rows as there are bytes by the width, which divides them.
func tableOf(count int, width int) [][]byte {
	rows := make([][]byte, count/width)
	for i := range rows {
		rows[i] = make([]byte, width)
	}
	return rows
}

// interleavedByWords writes a table row by row, and reads it column by column.
func interleavedByWords(data []byte, width int64) impl.FrameBytes {
	if code := weaveCode(data, width); code != impl.OK {
		return noBytes(code)
	}
	rows := tableOf(len(data), int(width))
	for i, b := range data {
		rows[int64(i)/width][int64(i)%width] = b
	}
	read := []byte{}
	for column := range width {
		for _, row := range rows {
			read = append(read, row[column])
		}
	}
	return impl.FrameBytes{Bytes: read}
}

// wovenByWords writes a table column by column, and reads it row by row.
func wovenByWords(data []byte, width int64) impl.FrameBytes {
	if code := weaveCode(data, width); code != impl.OK {
		return noBytes(code)
	}
	rows := tableOf(len(data), int(width))
	for i, b := range data {
		rows[i%len(rows)][i/len(rows)] = b
	}
	return impl.FrameBytes{Bytes: slices.Concat(rows...)}
}

func holdInterleave(t *testing.T, what string, data []byte, width int64, want impl.FrameBytes) {
	t.Helper()
	holdBytes(t, what+", Interleave", func(data []byte) impl.FrameBytes { return impl.Interleave(data, width) }, data, want)
}

func holdWeave(t *testing.T, what string, data []byte, width int64, want impl.FrameBytes) {
	t.Helper()
	holdBytes(t, what+", Weave", func(data []byte) impl.FrameBytes { return impl.Weave(data, width) }, data, want)
}

// wrongWidths are not 1 to 1000.
func wrongWidths() []int64 {
	return []int64{0, -1, -2, -3, -1000, 1001, 1002, 2000, 100000, 1 << 32, 1<<32 + 1, math.MaxInt64, math.MinInt64, math.MinInt64 + 1}
}

func TestWeaveTold(t *testing.T) {
	six := []byte{1, 2, 3, 4, 5, 6}
	holdInterleave(t, "two rows of three", six, 3, toldBytes(1, 4, 2, 5, 3, 6))
	holdInterleave(t, "three rows of two", six, 2, toldBytes(1, 3, 5, 2, 4, 6))
	holdInterleave(t, "six rows", six, 1, toldBytes(six...))
	holdInterleave(t, "one row", six, 6, toldBytes(six...))
	holdWeave(t, "two rows of three", six, 3, toldBytes(1, 3, 5, 2, 4, 6))
	holdWeave(t, "three rows of two", six, 2, toldBytes(1, 4, 2, 5, 3, 6))
	holdWeave(t, "six rows", six, 1, toldBytes(six...))
	holdWeave(t, "one row", six, 6, toldBytes(six...))
	holdWeave(t, "woven", []byte{1, 4, 2, 5, 3, 6}, 3, toldBytes(six...))
	holdInterleave(t, "one byte", []byte{9}, 1, toldBytes(9))
	holdWeave(t, "one byte", []byte{9}, 1, toldBytes(9))
}

// TestWeaveOfEveryWidth: of all numbers of bytes up to 60, and of widths that divide them and that don't.
func TestWeaveOfEveryWidth(t *testing.T) {
	draw := numbers{state: 1750}
	for count := range 61 {
		data := drawnBytes(&draw, count)
		for width := int64(-2); width <= 70; width++ {
			holdInterleave(t, "drawn", data, width, interleavedByWords(data, width))
			holdWeave(t, "drawn", data, width, wovenByWords(data, width))
		}
	}
	for width := int64(1); width <= 1002; width++ {
		for _, rows := range []int64{1, 2, 7, 99} {
			data := drawnBytes(&draw, int(rows*width))
			if got, want := impl.Interleave(data, width), interleavedByWords(data, width); !sameFrameBytes(got, want) {
				t.Errorf("Interleave of %d bytes by %d: %s, want %s", len(data), width, brief(got), brief(want))
			}
			if got, want := impl.Weave(data, width), wovenByWords(data, width); !sameFrameBytes(got, want) {
				t.Errorf("Weave of %d bytes by %d: %s, want %s", len(data), width, brief(got), brief(want))
			}
		}
	}
}

func TestWeaveOfManyBytes(t *testing.T) {
	draw := numbers{state: 1751}
	data := drawnBytes(&draw, 100000)
	for _, width := range []int64{1, 2, 3, 5, 7, 8, 100, 125, 128, 500, 999, 1000, 1001} {
		holdInterleave(t, "many", data, width, interleavedByWords(data, width))
		holdWeave(t, "many", data, width, wovenByWords(data, width))
	}
	for _, long := range tooLong() {
		for _, width := range append(wrongWidths(), 1, 2, 11, 1000) {
			holdInterleave(t, "too many", long, width, noBytes(impl.ErrMany))
			holdWeave(t, "too many", long, width, noBytes(impl.ErrMany))
		}
	}
}

func TestWeaveOfWrongWidths(t *testing.T) {
	for _, width := range wrongWidths() {
		for _, data := range [][]byte{nil, {}, {1}, {1, 2, 3, 4, 5, 6}, make([]byte, 1000), make([]byte, 1001), make([]byte, 2002), make([]byte, 100000)} {
			holdInterleave(t, "wrong width", data, width, noBytes(impl.ErrForm))
			holdWeave(t, "wrong width", data, width, noBytes(impl.ErrForm))
		}
	}
	for count, width := range map[int]int64{1: 2, 2: 3, 6: 4, 7: 6, 10: 1000, 999: 1000, 1001: 1000, 1999: 1000, 100000: 999, 99999: 1000} {
		holdInterleave(t, "does not divide", make([]byte, count), width, noBytes(impl.ErrForm))
		holdWeave(t, "does not divide", make([]byte, count), width, noBytes(impl.ErrForm))
	}
}

// TestWeaveOfNoByte: every width divides none.
func TestWeaveOfNoByte(t *testing.T) {
	for _, width := range []int64{1, 2, 3, 999, 1000} {
		for _, data := range [][]byte{nil, {}} {
			holdInterleave(t, "none", data, width, toldBytes())
			holdWeave(t, "none", data, width, toldBytes())
		}
	}
}

// TestWeavingComesBack: each undoes the other, and is the other with rows for columns.
func TestWeavingComesBack(t *testing.T) {
	draw := numbers{state: 1752}
	for _, width := range []int64{1, 2, 3, 10, 31, 100, 999, 1000} {
		for _, rows := range []int64{1, 2, 3, 64, 100000 / width} {
			data := drawnBytes(&draw, int(rows*width))
			holdWeave(t, "back", impl.Interleave(data, width).Bytes, width, toldBytes(data...))
			holdInterleave(t, "back", impl.Weave(data, width).Bytes, width, toldBytes(data...))
			if rows <= 1000 {
				holdInterleave(t, "changed about", data, width, impl.Weave(data, rows))
			}
		}
	}
}

// TestWeavingSpreadsABurst: of neighbours that are hit together each row has one.
func TestWeavingSpreadsABurst(t *testing.T) {
	draw := numbers{state: 1753}
	data := drawnBytes(&draw, 12)
	coded := impl.HamEncode(data).Bytes
	sent := impl.Interleave(coded, 8).Bytes
	for at := 0; at+1 < len(sent); at++ {
		hit := slices.Clone(sent)
		hit[at] ^= 0x10
		hit[at+1] ^= 0x02
		holdDecode(t, "hit", impl.Weave(hit, 8).Bytes, toldBlock(2, data...))
	}
}
