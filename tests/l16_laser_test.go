package tests

import (
	"math"
	"math/big"
	"slices"
	"testing"

	"loop.example/g00049/impl"
)

func laserOf(gain int64, loss int64, spon int64, pump int64) impl.Laser {
	return impl.Laser{Gain: gain, Loss: loss, Spon: spon, Pump: pump}
}

func noLaser(code int64) impl.LaserResult {
	return impl.LaserResult{Code: code}
}

func toldLaser(up int64, in int64, out int64, side int64, trail ...int64) impl.LaserResult {
	return impl.LaserResult{Up: up, In: in, Out: out, Side: side, Trail: trail}
}

func laserFaultByWords(l impl.Laser) int64 {
	for _, n := range []int64{l.Gain, l.Loss, l.Spon} {
		if n < 1 || n > 1000000 {
			return impl.ErrRange
		}
	}
	if l.Pump < 0 || l.Pump > 1000 {
		return impl.ErrRange
	}
	return impl.OK
}

// runByWords has every number of the books at hand ahead of and behind each change.
func runByWords(l impl.Laser, steps int64) impl.LaserResult {
	if laserFaultByWords(l) != impl.OK {
		return noLaser(impl.ErrRange)
	}
	if steps < 0 || steps > 1000 {
		return noLaser(impl.ErrForm)
	}
	up, in, out, side, trail := bigOf(0), bigOf(0), bigOf(0), bigOf(0), []int64{}
	for range steps {
		up = bigPlus(up, bigOf(l.Pump))
		x := new(big.Int).Quo(bigTimes(up, in), bigOf(l.Gain))
		if x.Cmp(up) > 0 {
			x = up
		}
		up, in = bigLess(up, x), bigPlus(in, x)
		y := new(big.Int).Quo(up, bigOf(l.Spon))
		up = bigLess(up, y)
		z := new(big.Int).Quo(y, bigOf(16))
		in, side = bigPlus(in, z), bigPlus(side, bigLess(y, z))
		w := new(big.Int).Quo(in, bigOf(l.Loss))
		in, out = bigLess(in, w), bigPlus(out, w)
		trail = append(trail, in.Int64())
	}
	return toldLaser(up.Int64(), in.Int64(), out.Int64(), side.Int64(), trail...)
}

func bigLess(a *big.Int, b *big.Int) *big.Int {
	return new(big.Int).Sub(a, b)
}

func sameLaser(a impl.LaserResult, b impl.LaserResult) bool {
	return a.Code == b.Code && a.Up == b.Up && a.In == b.In && a.Out == b.Out && a.Side == b.Side && slices.Equal(a.Trail, b.Trail)
}

// holdLaser asks twice, and writes over the first answer ahead of looking at the second. A wrong answer ends the test: without the bounds more steps would be endless.
func holdLaser(t *testing.T, l impl.Laser, steps int64, want impl.LaserResult) {
	t.Helper()
	got, again := impl.RunLaser(l, steps), impl.RunLaser(l, steps)
	if !sameLaser(got, want) {
		t.Fatalf("RunLaser(%v, %d) = %s, want %s", l, steps, brief(got), brief(want))
	}
	for i := range got.Trail[:cap(got.Trail)] {
		got.Trail[:cap(got.Trail)][i] = -7
	}
	if !sameLaser(again, want) {
		t.Errorf("RunLaser(%v, %d) is %s when asked again, want %s", l, steps, brief(again), brief(want))
	}
}

func holdLaserFault(t *testing.T, l impl.Laser, want int64) {
	t.Helper()
	for range 2 {
		if got := impl.LaserFault(l); got != want {
			t.Errorf("LaserFault(%v) = %d, want %d", l, got, want)
		}
	}
}

func rightRates() []int64 {
	return []int64{1, 2, 3, 10, 999, 1000, 1001, 65536, 999999, 1000000}
}

func rightPumps() []int64 {
	return []int64{0, 1, 2, 10, 999, 1000}
}

func wrongPumps() []int64 {
	return []int64{-1, -2, -1000, -1001, math.MinInt64, math.MinInt64 + 1, 1001, 1002, 1000000, 1 << 32, 1<<32 + 1, math.MaxInt64, math.MaxInt64 - 1}
}

// wrongLasers have one field, or more, out of its bounds.
func wrongLasers() []impl.Laser {
	list := []impl.Laser{{}, laserOf(0, 0, 0, -1), laserOf(1000001, 1000001, 1000001, 1001), laserOf(math.MinInt64, math.MaxInt64, math.MinInt64, math.MaxInt64)}
	for _, rate := range wrongRates() {
		list = append(list, laserOf(rate, 4, 10, 20), laserOf(50, rate, 10, 20), laserOf(50, 4, rate, 20), laserOf(rate, rate, rate, 20))
	}
	for _, pump := range wrongPumps() {
		list = append(list, laserOf(50, 4, 10, pump), laserOf(1, 1, 1, pump), laserOf(1000000, 1000000, 1000000, pump))
	}
	return list
}

func drawnLaser(draw *numbers) impl.Laser {
	rates := []int64{}
	for range 3 {
		most := []int64{3, 30, 300, 3000, 1000000}[draw.below(5)]
		rates = append(rates, 1+draw.below(most))
	}
	return laserOf(rates[0], rates[1], rates[2], draw.below([]int64{2, 50, 1001}[draw.below(3)]))
}

func TestLaserFault(t *testing.T) {
	for _, rate := range rightRates() {
		for _, pump := range rightPumps() {
			for _, l := range []impl.Laser{laserOf(rate, 4, 10, pump), laserOf(50, rate, 10, pump), laserOf(50, 4, rate, pump), laserOf(rate, rate, rate, pump)} {
				holdLaserFault(t, l, impl.OK)
			}
		}
	}
	for _, l := range wrongLasers() {
		holdLaserFault(t, l, impl.ErrRange)
	}
	edges := []int64{math.MinInt64, -1, 0, 1, 2, 1000, 1001, 1000000, 1000001, math.MaxInt64}
	for _, gain := range edges {
		for _, loss := range edges {
			for _, spon := range edges {
				for _, pump := range edges {
					l := laserOf(gain, loss, spon, pump)
					holdLaserFault(t, l, laserFaultByWords(l))
				}
			}
		}
	}
}

func TestRunLaserTold(t *testing.T) {
	strong := laserOf(2, 2, 1, 40)
	holdLaser(t, strong, 0, toldLaser(0, 0, 0, 0))
	holdLaser(t, strong, 1, toldLaser(0, 1, 1, 38, 1))
	holdLaser(t, strong, 2, toldLaser(0, 11, 12, 57, 1, 11))
	holdLaser(t, strong, 3, toldLaser(0, 26, 37, 57, 1, 11, 26))
	slow := laserOf(10, 3, 4, 100)
	holdLaser(t, slow, 1, toldLaser(75, 1, 0, 24, 1))
	holdLaser(t, slow, 2, toldLaser(119, 14, 6, 61, 1, 14))
	holdLaser(t, slow, 3, toldLaser(0, 156, 83, 61, 1, 14, 156))
	holdLaser(t, slow, 4, toldLaser(0, 171, 168, 61, 1, 14, 156, 171))
	// Below 16 strays at a time none is caught, and no light begins.
	holdLaser(t, laserOf(1, 1, 1, 15), 3, toldLaser(0, 0, 0, 45, 0, 0, 0))
	holdLaser(t, laserOf(1, 1, 1, 16), 3, toldLaser(0, 0, 3, 45, 0, 0, 0))
	holdLaser(t, laserOf(1, 1000000, 1, 16), 3, toldLaser(0, 33, 0, 15, 1, 17, 33))
	// Nothing is pumped, or nothing falls down.
	holdLaser(t, laserOf(1, 1, 1, 0), 4, toldLaser(0, 0, 0, 0, 0, 0, 0, 0))
	holdLaser(t, laserOf(1, 1, 1000000, 1000), 2, toldLaser(2000, 0, 0, 0, 0, 0))
}

func TestRunLaserOfTheStage(t *testing.T) {
	l := impl.RunLaser(laserOf(50, 4, 10, 20), 100)
	if l.Code != impl.OK || l.Up+l.In+l.Out+l.Side != 2000 || l.Out == 0 {
		t.Error(l)
	}
}

func TestRunLaserFaults(t *testing.T) {
	for _, l := range wrongLasers() {
		for _, steps := range append([]int64{0, 1, 1000}, wrongSteps()...) {
			holdLaser(t, l, steps, noLaser(impl.ErrRange))
		}
	}
	for _, l := range []impl.Laser{laserOf(50, 4, 10, 20), laserOf(1, 1, 1, 0), laserOf(1000000, 1000000, 1000000, 1000)} {
		for _, steps := range wrongSteps() {
			holdLaser(t, l, steps, noLaser(impl.ErrForm))
		}
		for _, steps := range []int64{0, 1, 999, 1000} {
			holdLaser(t, l, steps, runByWords(l, steps))
		}
	}
}

func TestRunLaserByWords(t *testing.T) {
	draw := numbers{state: 1630}
	for range 400 {
		l := drawnLaser(&draw)
		for _, steps := range []int64{0, 1, 2, draw.below(1001), 1000} {
			holdLaser(t, l, steps, runByWords(l, steps))
		}
	}
	edges := []int64{1, 2, 1000, 1000000}
	for _, gain := range edges {
		for _, loss := range edges {
			for _, spon := range edges {
				for _, pump := range []int64{0, 1, 16, 1000} {
					l := laserOf(gain, loss, spon, pump)
					holdLaser(t, l, 1000, runByWords(l, 1000))
				}
			}
		}
	}
}

// TestBooksOfALaserBalanceInEachStep: all that was pumped stands in the books, none below 0, and the trail goes with In.
func TestBooksOfALaserBalanceInEachStep(t *testing.T) {
	draw := numbers{state: 1631}
	shining := 0
	for range 60 {
		l := drawnLaser(&draw)
		ahead := impl.LaserResult{}
		for steps := int64(0); steps <= 120; steps++ {
			run := impl.RunLaser(l, steps)
			if run.Code != impl.OK || run.Up+run.In+run.Out+run.Side != l.Pump*steps || min(run.Up, run.In, run.Out, run.Side) < 0 {
				t.Fatalf("RunLaser(%v, %d) = %v", l, steps, run)
			}
			if !slices.Equal(run.Trail, append(ahead.Trail, run.In)) && steps > 0 || int64(len(run.Trail)) != steps {
				t.Fatalf("RunLaser(%v, %d): In %d, trail %v, ahead %v", l, steps, run.In, run.Trail, ahead.Trail)
			}
			if run.Out < ahead.Out || run.Side < ahead.Side {
				t.Fatalf("RunLaser(%v, %d): light comes back: %v behind %v", l, steps, run, ahead)
			}
			ahead = run
		}
		if ahead.Out > 0 {
			shining++
		}
	}
	if shining < 10 {
		t.Error("lasers that shine:", shining)
	}
}
