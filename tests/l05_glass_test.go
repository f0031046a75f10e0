package tests

import (
	"math"
	"slices"
	"strings"
	"testing"

	"loop.example/g00049/impl"
)

const tenToTwelve = 1000000000000

// sixGlass is a crown glass as its maker tells it.
func sixGlass() impl.Glass {
	return impl.Glass{Name: "N-BK7", Kind: impl.GlassSix, Low: 310, High: 2500, K: []int64{1039612120, 6000699, 231792344, 20017914, 1010469450, 103560653000}}
}

func threeGlass() impl.Glass {
	return impl.Glass{Name: "K7", Kind: impl.GlassThree, Low: 300, High: 2000, K: []int64{1500000000, 5000000, 0}}
}

// evenGlass has the index 1.5 at every wavelength.
func evenGlass() impl.Glass {
	return impl.Glass{Name: "Even", Kind: impl.GlassThree, Low: 1, High: impl.MaxNm, K: []int64{1500000000, 0, 0}}
}

func copyOfGlass(g impl.Glass) impl.Glass {
	g.K = append([]int64{}, g.K...)
	return g
}

func copyOfGlasses(list []impl.Glass) []impl.Glass {
	copied := []impl.Glass{}
	for _, g := range list {
		copied = append(copied, copyOfGlass(g))
	}
	return copied
}

func sameGlass(a impl.Glass, b impl.Glass) bool {
	return a.Name == b.Name && a.Kind == b.Kind && a.Low == b.Low && a.High == b.High && slices.Equal(a.K, b.K) && sameFloat(a.Shift, b.Shift)
}

func sameGlasses(a []impl.Glass, b []impl.Glass) bool {
	return slices.EqualFunc(a, b, sameGlass)
}

// changedGlass is a copy of the glass with something changed.
func changedGlass(g impl.Glass, change func(*impl.Glass)) impl.Glass {
	g = copyOfGlass(g)
	change(&g)
	return g
}

// glassCase is a change, and the fault of either glass that it was made to.
type glassCase struct {
	what   string
	change func(*impl.Glass)
	code   int64
}

func holdGlassCases(t *testing.T, cases []glassCase) {
	t.Helper()
	for _, right := range []impl.Glass{sixGlass(), threeGlass()} {
		for _, c := range cases {
			g := changedGlass(right, c.change)
			kept := copyOfGlass(g)
			if got := impl.GlassFault(g); got != c.code {
				t.Errorf("%s of %s: fault %d, want %d", c.what, right.Name, got, c.code)
			}
			if !sameGlass(g, kept) {
				t.Errorf("%s of %s: the glass was changed", c.what, right.Name)
			}
		}
	}
}

func TestGlassBounds(t *testing.T) {
	if impl.GlassSix != 1 || impl.GlassThree != 2 || impl.MaxGlasses != 100 || impl.MaxNm != 100000 {
		t.Error("the constants of chapter 5 are others")
	}
}

func TestGlassesThatAreRight(t *testing.T) {
	for _, g := range []impl.Glass{sixGlass(), threeGlass(), evenGlass()} {
		if got := impl.GlassFault(g); got != impl.OK {
			t.Errorf("%v: fault %d", g, got)
		}
	}
	if got := impl.GlassFault(impl.Glass{}); got != impl.ErrForm {
		t.Errorf("the zero value: fault %d", got)
	}
}

// rightNames and wrongNames are what GlassFault and ReadGlasses take and do not take; the wrong ones are parted by a text in other ways if they have blanks or bytes 10.
func rightNames() []string {
	list := []string{"A", "Z", "a", "z", "A0", "A9", "A-", "z--", "K7", "N-BK7", "aZ09-", "glass", "six", "three"}
	return append(list, strings.Repeat("x", 20), "B"+strings.Repeat("-", 19), "Q"+strings.Repeat("7", 19))
}

func wrongNames() []string {
	list := []string{
		"7", "0A", "9", "-", "-A", "@", "[", "`", "{", "/", ":", "A@", "A[", "A`", "A{", "A/", "A:", "A.", "A,", "A_", "A+", "A\t", "A\r", "A\x00", "A\x7f", "A\x80", "A\xff", "\xffA",
		"\u00e9", "A\u00e9", "\u0410", "A\u0663", "A\uff11", "K\u2010", "\u212a",
		strings.Repeat("x", 21), "B" + strings.Repeat("-", 20), strings.Repeat("x", 19) + "_", strings.Repeat("x", 5000),
	}
	for _, right := range rightNames() {
		list = append(list, "-"+right, right+"!", right+"\u00e9")
	}
	return list
}

func TestGlassNames(t *testing.T) {
	cases := []glassCase{}
	add := func(names []string, code int64) {
		for _, name := range names {
			cases = append(cases, glassCase{"Name " + name, func(g *impl.Glass) { g.Name = name }, code})
		}
	}
	add(rightNames(), impl.OK)
	add(wrongNames(), impl.ErrForm)
	add([]string{"", " ", "A ", " A", "A B", "\n", "A\n", "A\nB"}, impl.ErrForm)
	holdGlassCases(t, cases)
}

// Every byte alone, at the end and in the midst of a name.
func TestBytesOfGlassNames(t *testing.T) {
	const letters = "ABCDEFGHIJKLMNOPQRSTUVWXYZabcdefghijklmnopqrstuvwxyz"
	for b := range 256 {
		text := string([]byte{byte(b)})
		first := strings.Contains(letters, text)
		later := first || strings.Contains("0123456789-", text)
		for name, right := range map[string]bool{text: first, text + "A": first, "A" + text: later, "A" + text + "A": later} {
			g := threeGlass()
			g.Name = name
			want := int64(impl.ErrForm)
			if right {
				want = impl.OK
			}
			if got := impl.GlassFault(g); got != want {
				t.Errorf("Name %q: fault %d, want %d", name, got, want)
			}
		}
	}
}

func TestGlassKinds(t *testing.T) {
	for _, kind := range []int64{math.MinInt64, -2, -1, 0, 1, 2, 3, 4, 6, 256 + 1, 1<<32 + 2, math.MaxInt64} {
		for length := range 12 {
			g := threeGlass()
			g.Kind, g.K = kind, make([]int64, length)
			want := int64(impl.ErrForm)
			if kind == impl.GlassSix && length == 6 || kind == impl.GlassThree && length == 3 {
				want = impl.OK
			}
			if got := impl.GlassFault(g); got != want {
				t.Errorf("Kind %d with %d numbers: fault %d, want %d", kind, length, got, want)
			}
		}
	}
	holdGlassCases(t, []glassCase{
		{"no K", func(g *impl.Glass) { g.K = nil }, impl.ErrForm},
		{"K too long", func(g *impl.Glass) { g.K = append(g.K, 0) }, impl.ErrForm},
		{"K too short", func(g *impl.Glass) { g.K = g.K[1:] }, impl.ErrForm},
		{"the other Kind", func(g *impl.Glass) { g.Kind = impl.GlassSix + impl.GlassThree - g.Kind }, impl.ErrForm},
		{"very long K", func(g *impl.Glass) { g.K = make([]int64, 100000) }, impl.ErrForm},
	})
}

func TestGlassRanges(t *testing.T) {
	bounds := func(low int64, high int64) func(*impl.Glass) {
		return func(g *impl.Glass) { g.Low, g.High = low, high }
	}
	holdGlassCases(t, []glassCase{
		{"from 1 to MaxNm", bounds(1, impl.MaxNm), impl.OK},
		{"one wavelength", bounds(500, 500), impl.OK},
		{"the first alone", bounds(1, 1), impl.OK},
		{"the last alone", bounds(impl.MaxNm, impl.MaxNm), impl.OK},
		{"Low 0", bounds(0, 500), impl.ErrRange},
		{"Low -1", bounds(-1, 500), impl.ErrRange},
		{"both 0", bounds(0, 0), impl.ErrRange},
		{"the least Low", bounds(math.MinInt64, 500), impl.ErrRange},
		{"High one too far", bounds(500, impl.MaxNm+1), impl.ErrRange},
		{"both one too far", bounds(impl.MaxNm+1, impl.MaxNm+1), impl.ErrRange},
		{"the greatest High", bounds(500, math.MaxInt64), impl.ErrRange},
		{"Low above High", bounds(501, 500), impl.ErrRange},
		{"Low far above High", bounds(math.MaxInt64, math.MinInt64), impl.ErrRange},
	})
}

func TestGlassNumbers(t *testing.T) {
	for _, right := range []impl.Glass{sixGlass(), threeGlass()} {
		for i := range right.K {
			for number, want := range map[int64]int64{
				0: impl.OK, 1: impl.OK, -1: impl.OK, tenToTwelve: impl.OK, -tenToTwelve: impl.OK, tenToTwelve - 1: impl.OK, -tenToTwelve + 1: impl.OK,
				tenToTwelve + 1: impl.ErrRange, -tenToTwelve - 1: impl.ErrRange, math.MaxInt64: impl.ErrRange, math.MinInt64: impl.ErrRange,
			} {
				g := changedGlass(right, func(g *impl.Glass) { g.K[i] = number })
				if got := impl.GlassFault(g); got != want {
					t.Errorf("%d at %d of %s: fault %d, want %d", number, i, g.Name, got, want)
				}
			}
		}
	}
}

func TestGlassShifts(t *testing.T) {
	cases := []glassCase{}
	add := func(code int64, shifts ...float64) {
		for _, shift := range shifts {
			cases = append(cases, glassCase{"a Shift", func(g *impl.Glass) { g.Shift = shift }, code})
		}
	}
	below := math.Nextafter(1, 0)
	above := math.Nextafter(1, 2)
	add(impl.OK, 0, math.Copysign(0, -1), 1, -1, below, -below, 0.5, -0.5, 5e-324, -5e-324)
	add(impl.ErrRange, above, -above, 2, -2, impl.LargestFloat, -impl.LargestFloat, math.Inf(1), math.Inf(-1))
	for _, bits := range bitsOfNaNs() {
		add(impl.ErrRange, math.Float64frombits(bits))
	}
	holdGlassCases(t, cases)
}

// All that is not of the right form is told ahead of all that leaves its bounds.
func TestFirstFaultOfAGlass(t *testing.T) {
	forms := []func(*impl.Glass){
		func(g *impl.Glass) { g.Name = "" },
		func(g *impl.Glass) { g.Kind = 3 },
		func(g *impl.Glass) { g.K = append(g.K, tenToTwelve+1) },
	}
	ranges := []func(*impl.Glass){
		func(g *impl.Glass) { g.Low = 0 },
		func(g *impl.Glass) { g.High = impl.MaxNm + 1 },
		func(g *impl.Glass) { g.Low = g.High + 1 },
		func(g *impl.Glass) { g.K[0] = tenToTwelve + 1 },
		func(g *impl.Glass) { g.Shift = math.NaN() },
	}
	cases := []glassCase{}
	for _, form := range forms {
		for _, bound := range ranges {
			cases = append(cases,
				glassCase{"a form and a bound", func(g *impl.Glass) { bound(g); form(g) }, impl.ErrForm},
				glassCase{"a bound alone", bound, impl.ErrRange},
				glassCase{"a form alone", form, impl.ErrForm})
		}
	}
	holdGlassCases(t, cases)
}

func TestFindGlass(t *testing.T) {
	named := func(names ...string) []impl.Glass {
		list := []impl.Glass{}
		for _, name := range names {
			list = append(list, changedGlass(threeGlass(), func(g *impl.Glass) { g.Name = name }))
		}
		return list
	}
	for _, c := range []struct {
		list []impl.Glass
		name string
		want int64
	}{
		{nil, "K7", -1}, {nil, "", -1}, {named(), "K7", -1},
		{named("K7"), "K7", 0}, {named("K7"), "K", -1}, {named("K7"), "K77", -1}, {named("K7"), "k7", -1}, {named("K7"), "", -1}, {named("K7"), " K7", -1},
		{named("A", "B", "C"), "A", 0}, {named("A", "B", "C"), "B", 1}, {named("A", "B", "C"), "C", 2}, {named("A", "B", "C"), "D", -1},
		{named("A", "B", "B", "A"), "B", 1}, {named("A", "B", "B", "A"), "A", 0}, {named("B", "A", "A", "A"), "A", 1},
		// Glasses with a fault are found, too.
		{[]impl.Glass{{}, {}}, "", 0}, {[]impl.Glass{{Name: "x"}, {}}, "", 1}, {named("A", "not one"), "not one", 1},
		{named(strings.Repeat("x", 200)), strings.Repeat("x", 200), 0}, {make([]impl.Glass, 300), "A", -1},
	} {
		kept := copyOfGlasses(c.list)
		if got := impl.FindGlass(c.list, c.name); got != c.want {
			t.Errorf("FindGlass(%v, %q) = %d, want %d", c.list, c.name, got, c.want)
		}
		if !sameGlasses(c.list, kept) {
			t.Errorf("FindGlass(%v, %q) changed the list", kept, c.name)
		}
	}
}
