package tests

import (
	"fmt"
	"runtime"
	"slices"
	"testing"

	"loop.example/g00049/impl"
)

// trialsDrawn are the points one by one, a coin for each number; how many coins were drawn ahead is all that a coin hangs on.
func trialsDrawn(point []int64, slack []int64, seed int64, tries int64) [][]int64 {
	xs := []int64{}
	for range int64(len(point)) * tries {
		seed = coinsByWords(seed, 1, 1).Next
		xs = append(xs, seed)
	}
	points := [][]int64{}
	for len(xs) > 0 {
		trial := []int64{}
		for i, number := range point {
			trial = append(trial, number-slack[i]+xs[i]%(2*slack[i]+1))
		}
		points, xs = append(points, trial), xs[len(point):]
	}
	return points
}

func trialsByWords(list []impl.Aim, point []int64, slack []int64, seed int64, tries int64) impl.MeritInt {
	if code := slackCodeByWords(list, point, slack); code != impl.OK {
		return noMerit(code)
	}
	if !isInside(seed, 0, 2147483646) || !isInside(tries, 1, 100) {
		return noMerit(impl.ErrForm)
	}
	return toldMerit(worstByWords(list, trialsDrawn(point, slack, seed, tries)))
}

func holdTrials(t *testing.T, what string, list []impl.Aim, point []int64, slack []int64, seed int64, tries int64, want impl.MeritInt) {
	t.Helper()
	ask := func(a meritArgs) impl.MeritInt { return impl.TrialsOf(a.aims, a.point, a.slack, seed, tries) }
	holdCall(t, fmt.Sprint(what, ", TrialsOf ", seed, " and ", tries), meritArgs{aims: list, point: point, slack: slack}, ask, want)
	if told := trialsByWords(list, point, slack, seed, tries); told != want {
		t.Errorf("%s: the words tell %v of %s at %v by %v, not %v", what, told, brief(list), point, slack, want)
	}
}

// TestTrialsTold: from 0 on the coins are what is left of 11, then of 530992.
func TestTrialsTold(t *testing.T) {
	one := []impl.Aim{aimOf(0, 1)}
	holdTrials(t, "11 by 3 leaves 2", one, []int64{5}, []int64{1}, 0, 1, toldMerit(6))
	holdTrials(t, "530992 by 3 leaves 1", one, []int64{5}, []int64{1}, 11, 1, toldMerit(5))
	holdTrials(t, "both", one, []int64{5}, []int64{1}, 0, 2, toldMerit(6))
	holdTrials(t, "the lower end", one, []int64{-5}, []int64{5}, 0, 1, toldMerit(10))
	holdTrials(t, "between", one, []int64{-5}, []int64{10}, 0, 1, toldMerit(4))
	two := []impl.Aim{aimOf(0, 1, 100)}
	holdTrials(t, "a number after the other", two, []int64{0, 0}, []int64{1, 1}, 0, 1, toldMerit(1))
	holdTrials(t, "without slack a coin is drawn, too", two, []int64{0, 0}, []int64{0, 1}, 0, 1, toldMerit(0))
	holdTrials(t, "no aim", nil, []int64{10000}, []int64{1000}, 0, 100, toldMerit(0))
	holdTrials(t, "no aim", []impl.Aim{}, []int64{3, 4}, []int64{1000, 0}, 0, 1, toldMerit(0))
}

// TestTrialsOneByOne: an aim at each number of a drawn point misses by nothing in that trial, and the worst of all is the worst of each.
func TestTrialsOneByOne(t *testing.T) {
	draw := numbers{state: 2250}
	for range 15 {
		dims := 1 + draw.below(10)
		point, slack := drawnPoint(&draw, dims, 500), []int64{}
		for range dims {
			slack = append(slack, draw.below([]int64{1, 3, 1001}[draw.below(3)]))
		}
		seed := draw.below(impl.CoinPrime)
		points := trialsDrawn(point, slack, seed, 100)
		met := []impl.Aim{}
		for i := range dims {
			row := pointOf(dims, 0)
			row[i] = 1
			met = append(met, aimOf(points[0][i], row...))
		}
		holdTrials(t, "the first trial", met, point, slack, seed, 1, toldMerit(0))
		for tries := int64(2); tries <= 100; tries += 7 {
			holdTrials(t, "from the first trial", met, point, slack, seed, tries, toldMerit(worstByWords(met, points[:tries])))
		}
		aims := drawnAims(&draw, 3, dims, 9, 100)
		for tries := int64(1); tries <= 100; tries += 11 {
			holdTrials(t, "so many", aims, point, slack, seed, tries, toldMerit(worstByWords(aims, points[:tries])))
		}
		// Where the last trial is the worst one, none but it tells so.
		for last := int64(1); last <= 100; last++ {
			if worst := worstByWords(aims, points[:last]); last > 1 && worst > worstByWords(aims, points[:last-1]) {
				holdTrials(t, "the last one is the worst", aims, point, slack, seed, last, toldMerit(worst))
			}
		}
	}
}

func TestTrialsFaults(t *testing.T) {
	aims, point, slack := []impl.Aim{aimOf(5, 1, 0), aimOf(-6, 0, 2)}, []int64{5, -3}, []int64{40, 60}
	for _, seed := range insideOf(0, impl.CoinPrime-1) {
		for _, tries := range insideOf(1, 100) {
			want := trialsByWords(aims, point, slack, seed, tries)
			if want.Code != impl.OK {
				t.Errorf("code %d of %d and %d", want.Code, seed, tries)
			}
			holdTrials(t, "right", aims, point, slack, seed, tries, want)
		}
		for _, tries := range wrongTries(100) {
			holdTrials(t, "wrong tries", aims, point, slack, seed, tries, noMerit(impl.ErrForm))
			holdTrials(t, "wrong tries without aims", nil, point, slack, seed, tries, noMerit(impl.ErrForm))
		}
	}
	for _, seed := range wrongSeeds() {
		for _, tries := range []int64{1, 100, 0, 101} {
			holdTrials(t, "a wrong seed", aims, point, slack, seed, tries, noMerit(impl.ErrForm))
			holdTrials(t, "a wrong seed without slack", aims, point, []int64{0, 0}, seed, tries, noMerit(impl.ErrForm))
			holdTrials(t, "a wrong seed without aims", nil, point, slack, seed, tries, noMerit(impl.ErrForm))
		}
	}
}

// TestTrialsAreNoWorseThanTheWorstCorner: and with enough of them they come there.
func TestTrialsAreNoWorseThanTheWorstCorner(t *testing.T) {
	draw := numbers{state: 2251}
	reached := 0
	for range 200 {
		dims := 1 + draw.below(10)
		list := drawnAims(&draw, draw.below(21), dims, []int64{3, 1000}[draw.below(2)], []int64{20, 100000}[draw.below(2)])
		point, slack := drawnPoint(&draw, dims, []int64{9, 10000}[draw.below(2)]), []int64{}
		for range dims {
			slack = append(slack, draw.below([]int64{2, 1001}[draw.below(2)]))
		}
		corner, ahead := impl.WorstCorner(list, point, slack), int64(0)
		seed := draw.below(impl.CoinPrime)
		for _, tries := range []int64{1, 2, 10, 99, 100} {
			trials := impl.TrialsOf(list, point, slack, seed, tries)
			if trials.Code != impl.OK || trials.Merit > corner.Merit || trials.Merit < ahead {
				t.Errorf("%s at %v by %v: %d trials from %d tell %v, the corners %v", brief(list), point, slack, tries, seed, trials, corner)
			}
			ahead = trials.Merit
			holdTrials(t, "drawn", list, point, slack, seed, tries, trials)
		}
		if ahead == corner.Merit && ahead > 0 {
			reached++
		}
	}
	if reached < 10 || reached > 190 {
		t.Error(reached)
	}
}

// TestTrialsSideBySide: how the workers run is not seen, on however many processors.
func TestTrialsSideBySide(t *testing.T) {
	draw := numbers{state: 2252}
	list, point := drawnAims(&draw, 20, 10, 1000, 100000), drawnPoint(&draw, 10, 10000)
	slack := pointOf(10, 700)
	want := trialsByWords(list, point, slack, 5, 100)
	defer runtime.GOMAXPROCS(runtime.GOMAXPROCS(0))
	for processors := 1; processors <= 8; processors++ {
		runtime.GOMAXPROCS(processors)
		for range 40 {
			if got := impl.TrialsOf(list, point, slack, 5, 100); got != want {
				t.Errorf("on %d processors %v, want %v", processors, got, want)
			}
		}
	}
}

// TestMeritCallsSideBySide: calls at the same time, with the same lists, answer as alone.
func TestMeritCallsSideBySide(t *testing.T) {
	draw := numbers{state: 2253}
	list, start, step := drawnDescent(&draw)
	slack := pointOf(int64(len(start)), 30)
	ask := func() string {
		path := impl.Descend(list, start, step, 50)
		search := impl.SearchMerit(list, int64(len(start)), 3, 4, step)
		return fmt.Sprint(path, search, impl.CheckDescent(list, path), impl.WorstCorner(list, start, slack), impl.TrialsOf(list, start, slack, 3, 60))
	}
	want := ask()
	told := make(chan string)
	for range 8 {
		go func() { told <- ask() }()
	}
	answers := []string{}
	for range 8 {
		answers = append(answers, <-told)
	}
	if slices.ContainsFunc(answers, func(answer string) bool { return answer != want }) {
		t.Error("calls side by side answer otherwise")
	}
}
