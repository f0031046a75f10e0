package tests

import (
	"math"
	"math/big"
	"testing"

	"loop.example/g00049/impl"
)

// anyNumbers are numbers that residues are asked of: small ones, those at multiples of Prime, the least and the greatest.
func anyNumbers() []int64 {
	const p = impl.Prime
	list := []int64{math.MinInt64, math.MinInt64 + 1, math.MaxInt64, math.MaxInt64 - 1, math.MaxInt32, math.MinInt32, p / 2, -p / 2, 499122177}
	for i := int64(-3); i <= 3; i++ {
		list = append(list, i, p+i, -p+i, 2*p+i, -2*p+i, p*p+i, -p*p+i, math.MaxInt64/p*p+i, math.MinInt64/p*p+i)
	}
	draw := numbers{state: 2}
	for range 12 {
		list = append(list, draw.next())
	}
	return list
}

func bigPrime() *big.Int {
	return big.NewInt(impl.Prime)
}

// residue is the one answer to a whole number of any size; big's Mod is from 0 up below 0, too.
func residue(x *big.Int) int64 {
	return new(big.Int).Mod(x, bigPrime()).Int64()
}

func TestFieldBounds(t *testing.T) {
	if impl.Prime != 119*(1<<23)+1 || impl.MaxSide != 24 || !bigPrime().ProbablyPrime(20) {
		t.Error("bounds", impl.Prime, impl.MaxSide)
	}
}

func TestFieldExamples(t *testing.T) {
	if impl.RootMod(1) != 998244352 || impl.PowMod(2, 10) != 1024 || impl.InvMod(2) != 499122177 {
		t.Error(impl.RootMod(1), impl.PowMod(2, 10), impl.InvMod(2))
	}
}

func TestSumsAndProductsOfResidues(t *testing.T) {
	for _, a := range anyNumbers() {
		for _, b := range anyNumbers() {
			x, y := big.NewInt(a), big.NewInt(b)
			if got, want := impl.AddMod(a, b), residue(new(big.Int).Add(x, y)); got != want {
				t.Errorf("AddMod(%d, %d) = %d, want %d", a, b, got, want)
			}
			if got, want := impl.MulMod(a, b), residue(new(big.Int).Mul(x, y)); got != want {
				t.Errorf("MulMod(%d, %d) = %d, want %d", a, b, got, want)
			}
		}
	}
}

func TestPowersOfResidues(t *testing.T) {
	const p = impl.Prime
	counts := []int64{1, 2, 3, 4, 5, 7, 10, 63, 64, 1 << 23, p - 2, p - 1, p, p + 1, math.MaxInt32, 1 << 62, math.MaxInt64 - 1, math.MaxInt64}
	for _, a := range anyNumbers() {
		if got := impl.PowMod(a, 0); got != 1 {
			t.Errorf("PowMod(%d, 0) = %d", a, got)
		}
		for _, n := range counts {
			if got, want := impl.PowMod(a, n), new(big.Int).Exp(big.NewInt(a), big.NewInt(n), bigPrime()).Int64(); got != want {
				t.Errorf("PowMod(%d, %d) = %d, want %d", a, n, got, want)
			}
		}
		for _, n := range []int64{-1, -2, -p, 1 - p, math.MinInt64, math.MinInt64 + 1} {
			if got := impl.PowMod(a, n); got != 0 {
				t.Errorf("PowMod(%d, %d) = %d", a, n, got)
			}
		}
	}
}

func TestPowersOfResiduesAddUp(t *testing.T) {
	draw := numbers{state: 3}
	for _, a := range anyNumbers() {
		for range 20 {
			m, n := draw.below(1<<62), draw.below(1<<62)
			if impl.PowMod(a, m+n) != impl.MulMod(impl.PowMod(a, m), impl.PowMod(a, n)) {
				t.Errorf("%d: powers %d and %d", a, m, n)
			}
			k := draw.below(1 << 31)
			if impl.PowMod(a, k*7) != impl.PowMod(impl.PowMod(a, 7), k) || impl.PowMod(a, k*7) != impl.PowMod(impl.PowMod(a, k), 7) {
				t.Errorf("%d: power %d of a power", a, k)
			}
		}
	}
}

func TestInversesOfResidues(t *testing.T) {
	for _, a := range anyNumbers() {
		want := int64(0)
		if r := residue(big.NewInt(a)); r != 0 {
			want = new(big.Int).ModInverse(big.NewInt(r), bigPrime()).Int64()
		}
		if got := impl.InvMod(a); got != want {
			t.Errorf("InvMod(%d) = %d, want %d", a, got, want)
		}
	}
	for a := int64(1); a <= 2000; a++ {
		if impl.MulMod(a, impl.InvMod(a)) != 1 || impl.InvMod(impl.InvMod(a)) != a || impl.InvMod(-a) != impl.AddMod(-impl.InvMod(a), 0) {
			t.Errorf("InvMod(%d) = %d", a, impl.InvMod(a))
		}
	}
}

func TestResiduesObeyTheLawsOfAField(t *testing.T) {
	for _, a := range anyNumbers() {
		if impl.AddMod(a, 0) != residue(big.NewInt(a)) || impl.MulMod(a, 1) != residue(big.NewInt(a)) || impl.MulMod(a, 0) != 0 {
			t.Errorf("%d: 0 or 1 changes it", a)
		}
		for _, b := range anyNumbers() {
			sum, product := impl.AddMod(a, b), impl.MulMod(a, b)
			if impl.AddMod(b, a) != sum || impl.MulMod(b, a) != product {
				t.Errorf("%d and %d: the order is seen", a, b)
			}
			if impl.AddMod(sum, impl.MulMod(b, -1)) != impl.AddMod(a, 0) {
				t.Errorf("%d and %d: the sum is not undone", a, b)
			}
			if impl.AddMod(b, 0) != 0 && impl.MulMod(product, impl.InvMod(b)) != impl.AddMod(a, 0) {
				t.Errorf("%d and %d: the product is not undone", a, b)
			}
			for _, c := range anyNumbers() {
				if impl.AddMod(sum, c) != impl.AddMod(a, impl.AddMod(b, c)) || impl.MulMod(product, c) != impl.MulMod(a, impl.MulMod(b, c)) {
					t.Errorf("%d, %d, %d: three in a row", a, b, c)
				}
				if impl.MulMod(sum, c) != impl.AddMod(impl.MulMod(a, c), impl.MulMod(b, c)) {
					t.Errorf("%d, %d, %d: the product of a sum", a, b, c)
				}
			}
		}
	}
}

func TestRootsOfOne(t *testing.T) {
	for k := int64(0); k <= 23; k++ {
		root := impl.RootMod(k)
		if want := new(big.Int).Exp(big.NewInt(3), big.NewInt((impl.Prime-1)>>k), bigPrime()).Int64(); root != want {
			t.Errorf("RootMod(%d) = %d, want %d", k, root, want)
		}
		if impl.PowMod(root, 1<<k) != 1 {
			t.Errorf("RootMod(%d) doesn't come back to 1", k)
		}
		if k > 0 && impl.MulMod(root, root) != impl.RootMod(k-1) {
			t.Errorf("the square of RootMod(%d) is another", k)
		}
		if k > 0 && impl.PowMod(root, 1<<(k-1)) != impl.Prime-1 {
			t.Errorf("RootMod(%d) half way round is not -1", k)
		}
	}
	for _, k := range []int64{-1, -2, 24, 25, 63, 64, 1 << 32, math.MinInt64, math.MaxInt64} {
		if got := impl.RootMod(k); got != 0 {
			t.Errorf("RootMod(%d) = %d", k, got)
		}
	}
}

func TestPowersOfRootsAreSoManyDifferentOnes(t *testing.T) {
	for k := int64(0); k <= 12; k++ {
		seen := map[int64]int{}
		power := int64(1)
		for range 3 << k {
			seen[power]++
			power = impl.MulMod(power, impl.RootMod(k))
		}
		if len(seen) != 1<<k {
			t.Errorf("RootMod(%d) has %d powers", k, len(seen))
		}
	}
}
