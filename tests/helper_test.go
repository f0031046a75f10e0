package tests

import (
	"fmt"
	"testing"
)

// overlap says whether two lists have an element's memory in common, that behind their ends too.
func overlap[T any](a []T, b []T) bool {
	a, b = a[:cap(a)], b[:cap(b)]
	for i := range a {
		for j := range b {
			if &a[i] == &b[j] {
				return true
			}
		}
	}
	return false
}

// apart tells lists of an answer that share memory with each other or with one of the arguments.
func apart[T any](t *testing.T, answer [][]T, arguments [][]T) {
	t.Helper()
	for i, list := range answer {
		for j, other := range answer[:i] {
			if overlap(list, other) {
				t.Errorf("lists %d and %d of the answer share memory", j, i)
			}
		}
		for j, other := range arguments {
			if overlap(list, other) {
				t.Errorf("list %d of the answer shares memory with argument %d", i, j)
			}
		}
	}
}

// numbers draws whole numbers by a rule of its own, so that each run has the same ones.
type numbers struct {
	state uint64
}

func (n *numbers) next() int64 {
	n.state = n.state*6364136223846793005 + 1442695040888963407
	mixed := n.state ^ n.state>>29
	return int64(mixed * 0x9E3779B97F4A7C15)
}

// below draws a number from 0 to most - 1.
func (n *numbers) below(most int64) int64 {
	return int64(uint64(n.next()) >> 1 % uint64(most))
}

// textsOf are all texts of up to so many pieces that there are as many as asked for, or more.
func textsOf(pieces []string, atLeast int) []string {
	texts := []string{""}
	for from := 0; len(texts) < atLeast; {
		upTo := len(texts)
		for _, text := range texts[from:upTo] {
			for _, piece := range pieces {
				texts = append(texts, text+piece)
			}
		}
		from = upTo
	}
	return texts
}

// callArgs are what a call is given: withRoom shares nothing with them and has room behind all ends, picture tells all that they reach, behind all ends too.
type callArgs[A any] interface {
	withRoom() A
	picture() string
}

// holdCall asks twice and writes into the first answer; neither the second one nor the arguments may show it.
func holdCall[A callArgs[A], T any](t *testing.T, what string, args A, ask func(A) T, want T) {
	t.Helper()
	told := fmt.Sprint(want)
	for _, given := range []A{args, args.withRoom()} {
		kept := given.picture()
		got, again := ask(given), ask(given)
		if fmt.Sprint(got) != told {
			t.Errorf("%s of %s: %s, want %s", what, brief(args), brief(got), brief(want))
		}
		if given.picture() != kept {
			t.Errorf("%s changes %s", what, brief(args))
		}
		spoilAnswer(t, got)
		if fmt.Sprint(again) != told {
			t.Errorf("%s of %s: %s when asked again, want %s", what, brief(args), brief(again), brief(want))
		}
		if given.picture() != kept {
			t.Errorf("%s shares memory with %s", what, brief(args))
		}
	}
}
