package tests

import (
	"slices"
	"testing"

	"loop.example/g00049/impl"
)

// darkPlate is changed in one of its numbers so that u is 0 on the first side; before and behind must not have the residue 0.
func darkPlate(p impl.ModPlate, place int64, before int64, behind int64) impl.ModPlate {
	list := []int64{p.A, p.B, p.C, p.D}
	// u is the sum of A before, B before behind, C, and D behind.
	weights := []int64{impl.MulMod(before, 1), impl.MulMod(before, behind), 1, impl.MulMod(behind, 1)}
	rest := int64(0)
	for i := range list {
		if int64(i) != place {
			rest = impl.AddMod(rest, impl.MulMod(list[i], weights[i]))
		}
	}
	list[place] = impl.MulMod(-rest, inverseByBig(weights[place]))
	return impl.ModPlate{A: list[0], B: list[1], C: list[2], D: list[3]}
}

func TestModBooksTold(t *testing.T) {
	const p = impl.Prime
	bare := impl.ModPlate{A: 1, D: 1}
	// 1/5 is 598946612: -3/5, 2/5, 3/5, 8/5.
	holdBooks(t, "bare", bare, 1, 4, toldWave(199648870, 199648871, 798595483, 798595484))
	holdBooks(t, "bare", bare, 4, 1, toldWave(798595483, 798595484, 199648870, 199648871))
	holdBooks(t, "bare", bare, 1, 3, toldWave(499122176, 499122177, 499122177, 499122178))
	holdBooks(t, "like media", bare, 7, 7, toldWave(0, 1, 0, 1))
	holdBooks(t, "any plate", impl.ModPlate{A: 1, B: 2, C: 3, D: 7}, 5, 11, toldWave(409536145, 972648344, 240602486, 542635392))
	// A quarter of a wave, of the index between, lets all light through.
	holdBooks(t, "quarter", impl.ModFilm(2, (p-1)/4), 1, 4, toldWave(0, 43291859, 0, 173167436))
	// Half a wave is not seen, but for the sign of what goes through.
	holdBooks(t, "half", impl.ModFilm(2, (p-1)/2), 1, 4, toldWave(199648870, p-199648871, 798595483, p-798595484))
	holdBooks(t, "no residues", impl.ModPlate{A: 1 + p, B: -p, C: p, D: 1 - p}, 1-p, 4+p, toldWave(199648870, 199648871, 798595483, 798595484))
}

func TestModBooksWithoutMedia(t *testing.T) {
	plate := impl.ModPlate{A: 1, B: 2, C: 3, D: 7}
	for _, nought := range noughts() {
		// Before is 0: c by c comes back, turned; nothing goes through from there.
		holdBooks(t, "before", plate, nought, 11, booksByWords(plate, 0, 11))
		if got := impl.ModBooks(plate, nought, 11).List; len(got) != 4 || got[0] != impl.Prime-1 || got[1] != 0 || got[3] == 0 {
			t.Error("before", nought, got)
		}
		holdBooks(t, "behind", plate, 5, nought, booksByWords(plate, 5, 0))
		if got := impl.ModBooks(plate, 5, nought).List; len(got) != 4 || got[2] != impl.Prime-1 || got[3] != 0 || got[1] == 0 {
			t.Error("behind", nought, got)
		}
		holdBooks(t, "both", plate, nought, nought, toldWave(impl.Prime-1, 0, impl.Prime-1, 0))
		holdBooks(t, "both, dark", impl.ModPlate{A: 1, B: 2, C: nought, D: 7}, nought, 0, noWave(impl.ErrZero))
		holdBooks(t, "bare", impl.ModPlate{A: 1, D: 1}, 0, nought, noWave(impl.ErrZero))
		holdBooks(t, "no plate", impl.ModPlate{A: nought}, 1, 4, noWave(impl.ErrZero))
	}
}

// TestDarkBooks: u is 0 from both sides or from none, for both are the same sum; so no plate is dark from one side alone.
func TestDarkBooks(t *testing.T) {
	draw := numbers{state: 1151}
	for range 200 {
		before, behind := drawnBeam(&draw, 1)[0], drawnBeam(&draw, 1)[0]
		plate := drawnModPlate(&draw)
		there, _, _ := sideByWords(plate, before, behind)
		back, _, _ := sideByWords(seenFromBehind(plate), behind, before)
		if there != back {
			t.Errorf("%v between %d and %d: %d there, %d back", plate, before, behind, there, back)
		}
		for place := range int64(4) {
			dark := darkPlate(plate, place, before, behind)
			holdBooks(t, "dark", dark, before, behind, noWave(impl.ErrZero))
			holdBooks(t, "dark from behind", seenFromBehind(dark), behind, before, noWave(impl.ErrZero))
			dim := dark
			dim.C = impl.AddMod(dark.C, 1)
			want := booksByWords(dim, before, behind)
			if want.Code != impl.OK {
				t.Errorf("%v between %d and %d is dark, too", dim, before, behind)
			}
			holdBooks(t, "nearly dark", dim, before, behind, want)
		}
	}
	holdBooks(t, "opposite media", impl.ModPlate{A: 1, D: 1}, 3, -3, noWave(impl.ErrZero))
	holdBooks(t, "opposite media", impl.ModPlate{A: 1, D: 1}, 3, impl.Prime-3, noWave(impl.ErrZero))
	holdBooks(t, "dark by A and D", impl.ModPlate{A: 2, D: -1}, 1, 2, noWave(impl.ErrZero))
}

func TestModBooksByWords(t *testing.T) {
	draw := numbers{state: 1152}
	for range 500 {
		plate, media := drawnModPlate(&draw), drawnWave(&draw, 2)
		holdBooks(t, "drawn", plate, media[0], media[1], booksByWords(plate, media[0], media[1]))
	}
	for _, number := range anyNumbers() {
		for place := range 6 {
			list := drawnWave(&draw, 6)
			list[place] = number
			plate := impl.ModPlate{A: list[0], B: list[1], C: list[2], D: list[3]}
			holdBooks(t, "edge", plate, list[4], list[5], booksByWords(plate, list[4], list[5]))
		}
	}
}

// TestLightPassesAlikeFromBothSides: measured by its medium, as much goes through there as back; seen from behind, the books are changed about.
func TestLightPassesAlikeFromBothSides(t *testing.T) {
	draw := numbers{state: 1153}
	for range 300 {
		films := drawnModFilms(&draw, int(draw.below(8)))
		before, behind := drawnBeam(&draw, 1)[0], drawnBeam(&draw, 1)[0]
		told := impl.ModBooks(impl.ModStack(films), before, behind)
		slices.Reverse(films)
		other := impl.ModBooks(impl.ModStack(films), behind, before)
		if told.Code == impl.ErrZero && other.Code == impl.ErrZero {
			continue
		}
		if len(told.List) != 4 || len(other.List) != 4 {
			t.Fatal(told, other)
		}
		if impl.MulMod(told.List[1], behind) != impl.MulMod(told.List[3], before) {
			t.Errorf("between %d and %d: %v", before, behind, told)
		}
		if !slices.Equal(other.List, []int64{told.List[2], told.List[3], told.List[0], told.List[1]}) {
			t.Errorf("%v, from behind %v", told, other)
		}
	}
}

// TestBareMediaKeepTheirLight: without a film, what comes back turns its sign from the other side, and all light is found again.
func TestBareMediaKeepTheirLight(t *testing.T) {
	draw := numbers{state: 1154}
	for range 300 {
		media := drawnBeam(&draw, 2)
		told := impl.ModBooks(impl.ModStack(nil), media[0], media[1])
		if impl.AddMod(media[0], media[1]) == 0 {
			holdBooks(t, "opposite", impl.ModStack(nil), media[0], media[1], noWave(impl.ErrZero))
			continue
		}
		if len(told.List) != 4 {
			t.Fatal(media, told)
		}
		r, through, s, back := told.List[0], told.List[1], told.List[2], told.List[3]
		if impl.AddMod(r, s) != 0 || impl.AddMod(impl.MulMod(r, r), impl.MulMod(through, back)) != 1 {
			t.Errorf("%v: %v", media, told)
		}
	}
}
