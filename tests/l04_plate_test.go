package tests

import (
	"math"
	"slices"
	"testing"

	"loop.example/g00049/impl"
)

func samePlate(p impl.Plate, q impl.Plate) bool {
	return sameZ(p.A, q.A) && sameZ(p.B, q.B) && sameZ(p.C, q.C) && sameZ(p.D, q.D)
}

func holdPlate(t *testing.T, what string, got impl.Plate, want impl.Plate) {
	t.Helper()
	if !samePlate(got, want) {
		t.Errorf("%s: %v, want %v", what, got, want)
	}
}

func plateOf(list []impl.Z) impl.Plate {
	return impl.Plate{A: list[0], B: list[1], C: list[2], D: list[3]}
}

// realPlate has the four numbers as its Re.
func realPlate(a float64, b float64, c float64, d float64) impl.Plate {
	return impl.Plate{A: impl.Z{Re: a}, B: impl.Z{Re: b}, C: impl.Z{Re: c}, D: impl.Z{Re: d}}
}

// anyPlates are drawn ones, and ones of every kind of float in whatever place.
func anyPlates() []impl.Plate {
	list := []impl.Plate{{}, realPlate(1, 0, 0, 1), realPlate(1, 2, 3, 4), realPlate(1, 2, 2, 4), realPlate(0, 1, 1, 0)}
	for seed := range uint64(30) {
		list = append(list, plateOf(drawnZ(70+seed, 4)))
	}
	kinds, draw := everyZ(), numbers{state: 71}
	for range 60 {
		four := []impl.Z{}
		for range 4 {
			four = append(four, kinds[draw.below(int64(len(kinds)))])
		}
		list = append(list, plateOf(four))
	}
	for i, z := range drawnZ(72, 4) {
		four := drawnZ(uint64(73+i), 4)
		four[i] = impl.Z{Re: math.Inf(1), Im: z.Im}
		list = append(list, plateOf(four))
		four[i] = impl.Z{Re: z.Re, Im: math.NaN()}
		list = append(list, plateOf(four))
	}
	return list
}

// plateByWords goes by rows and columns, where the program has four places.
func plateByWords(p impl.Plate, q impl.Plate) impl.Plate {
	rows := [2][2]impl.Z{{p.A, p.B}, {p.C, p.D}}
	columns := [2][2]impl.Z{{q.A, q.C}, {q.B, q.D}}
	four := []impl.Z{}
	for _, row := range rows {
		for _, column := range columns {
			four = append(four, addByWords(mulByWords(row[0], column[0]), mulByWords(row[1], column[1])))
		}
	}
	return plateOf(four)
}

func turned(z impl.Z) impl.Z {
	return impl.Z{Re: math.Copysign(z.Re, math.Copysign(1, -z.Re)), Im: math.Copysign(z.Im, math.Copysign(1, -z.Im))}
}

func detByWords(p impl.Plate) impl.Z {
	return addByWords(mulByWords(p.A, p.D), turned(mulByWords(p.B, p.C)))
}

func inverseByWords(p impl.Plate) impl.Plate {
	det := detByWords(p)
	return plateOf([]impl.Z{divByWords(p.D, det), divByWords(turned(p.B), det), divByWords(turned(p.C), det), divByWords(p.A, det)})
}

func TestPlatesTold(t *testing.T) {
	inf, nan := math.Inf(1), math.NaN()
	holdPlate(t, "MulPlate", impl.MulPlate(realPlate(1, 2, 3, 4), realPlate(5, 6, 7, 8)), realPlate(19, 22, 43, 50))
	holdPlate(t, "MulPlate the other way", impl.MulPlate(realPlate(5, 6, 7, 8), realPlate(1, 2, 3, 4)), realPlate(23, 34, 31, 46))
	turn := impl.Plate{A: impl.Z{Im: 1}, B: impl.Z{Re: 1}, C: impl.Z{Re: 2}, D: impl.Z{Im: -1}}
	holdPlate(t, "MulPlate of a plate with itself", impl.MulPlate(turn, turn), realPlate(1, 0, 0, 1))
	holdZ(t, "DetPlate", impl.DetPlate(realPlate(1, 2, 3, 4)), impl.Z{Re: -2})
	holdZ(t, "DetPlate of a turn", impl.DetPlate(turn), impl.Z{Re: -1})
	holdZ(t, "DetPlate of none", impl.DetPlate(impl.Plate{}), impl.Z{})
	holdZ(t, "DetPlate of one without an inverse", impl.DetPlate(realPlate(1, 2, 2, 4)), impl.Z{})
	holdZ(t, "DetPlate of infinite ones", impl.DetPlate(realPlate(inf, 1, 1, 1)), impl.Z{Re: inf, Im: nan})
	inverse := impl.InvPlate(realPlate(1, 2, 3, 4))
	if inverse != realPlate(-2, 1, 1.5, -0.5) {
		t.Errorf("InvPlate: %v", inverse)
	}
	if unit := impl.InvPlate(realPlate(1, 0, 0, 1)); unit != realPlate(1, 0, 0, 1) {
		t.Errorf("InvPlate of the unit: %v", unit)
	}
	// Each nought has the sign that the turned one had.
	holdPlate(t, "InvPlate without an inverse", impl.InvPlate(realPlate(1, 2, 2, 4)), impl.Plate{A: impl.Z{Re: inf, Im: nan}, B: impl.Z{Re: -inf, Im: nan}, C: impl.Z{Re: -inf, Im: nan}, D: impl.Z{Re: inf, Im: nan}})
	none := impl.Z{Re: nan, Im: nan}
	holdPlate(t, "InvPlate of none", impl.InvPlate(impl.Plate{}), impl.Plate{A: none, B: none, C: none, D: none})
	holdPlate(t, "InvPlate with NaN", impl.InvPlate(realPlate(nan, 0, 0, 1)), impl.Plate{A: none, B: none, C: none, D: none})
}

func TestPlatesOfEveryKind(t *testing.T) {
	list := anyPlates()
	for _, p := range list {
		for _, q := range list {
			holdPlate(t, "MulPlate", impl.MulPlate(p, q), plateByWords(p, q))
		}
		holdZ(t, "DetPlate", impl.DetPlate(p), detByWords(p))
		holdPlate(t, "InvPlate", impl.InvPlate(p), inverseByWords(p))
	}
}

func TestInverseTimesPlate(t *testing.T) {
	draw := numbers{state: 75}
	for range 300 {
		four := []impl.Z{}
		for range 4 {
			four = append(four, impl.Z{Re: float64(draw.below(21) - 10), Im: float64(draw.below(21) - 10)})
		}
		p := plateOf(four)
		if impl.DetPlate(p) == (impl.Z{}) {
			continue
		}
		got := impl.MulPlate(p, impl.InvPlate(p))
		for i, z := range []impl.Z{got.A, got.B, got.C, got.D} {
			want := impl.Z{}
			if i == 0 || i == 3 {
				want.Re = 1
			}
			if !(math.Hypot(z.Re-want.Re, z.Im-want.Im) < 1e-9) {
				t.Errorf("%v times its inverse is %v", p, got)
			}
		}
	}
}

func TestChains(t *testing.T) {
	holdPlate(t, "ChainPlates of nil", impl.ChainPlates(nil), realPlate(1, 0, 0, 1))
	holdPlate(t, "ChainPlates of none", impl.ChainPlates([]impl.Plate{}), realPlate(1, 0, 0, 1))
	below := math.Copysign(0, -1)
	holdPlate(t, "ChainPlates of a nought", impl.ChainPlates([]impl.Plate{realPlate(below, below, below, below)}), plateByWords(realPlate(1, 0, 0, 1), realPlate(below, below, below, below)))
	holdPlate(t, "ChainPlates", impl.ChainPlates([]impl.Plate{realPlate(1, 2, 3, 4), realPlate(5, 6, 7, 8)}), realPlate(19, 22, 43, 50))
	holdPlate(t, "ChainPlates of an infinite one", impl.ChainPlates([]impl.Plate{realPlate(math.Inf(1), 0, 0, 1)}), plateByWords(realPlate(1, 0, 0, 1), realPlate(math.Inf(1), 0, 0, 1)))
	plates := anyPlates()
	for first := range plates {
		for length := range 6 {
			list := plates[first:min(first+length, len(plates))]
			before, want := slices.Clone(list), realPlate(1, 0, 0, 1)
			for _, p := range list {
				want = plateByWords(want, p)
			}
			holdPlate(t, "ChainPlates", impl.ChainPlates(list), want)
			if !slices.EqualFunc(list, before, samePlate) {
				t.Errorf("ChainPlates changed its list: %v, was %v", list, before)
			}
		}
	}
}
