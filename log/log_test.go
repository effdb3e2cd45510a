package log_test

import (
	"math"
	"testing"

	"wainscot/api"
	"wainscot/log"
)

// TestExample (S1): the chapter's own.
func TestExample(t *testing.T) {
	l := log.New(3)
	adds(t, l, 5, api.OK, k('k'))
	conflicts(t, l, 3, spans(on(k('k'))), true)
	conflicts(t, l, 5, spans(on(k('k'))), false)
	l.Prune(5)
	refuses(t, l, 4, spans(on(k('k'))), api.EState)
}

// TestNew (S1): without commits; a number below 0 counts as 0.
func TestNew(t *testing.T) {
	for _, c := range []struct{ last, want int }{
		{0, 0}, {1, 1}, {2, 2}, {100, 100}, {1 << 40, 1 << 40}, {math.MaxInt, math.MaxInt},
		{-1, 0}, {-2, 0}, {-100, 0}, {math.MinInt, 0},
	} {
		l := log.New(c.last)
		is(t, l, c.want, c.want, 0)
		conflicts(t, l, c.want, all(), false)
		refuses(t, l, c.want-1, all(), api.EState)
		if c.want < math.MaxInt {
			refuses(t, l, c.want+1, all(), api.EArg)
		}
		adds(t, l, c.want, api.EArg, k(1))
		is(t, l, c.want, c.want, 0)
	}
}

// TestAdd (S1): what is above Last is known, and Last; what is not changes nothing.
func TestAdd(t *testing.T) {
	l := log.New(4)
	for _, n := range []int{4, 3, 0, -1, math.MinInt} {
		adds(t, l, n, api.EArg, k(9))
		is(t, l, 4, 4, 0)
	}
	adds(t, l, 5, api.OK, k(1), k(2))
	is(t, l, 5, 4, 2)
	adds(t, l, 9, api.OK, k(3))
	is(t, l, 9, 4, 3)
	for _, n := range []int{9, 8, 6, 5, 4, 0, -1, math.MinInt} {
		adds(t, l, n, api.EArg, k(9))
		is(t, l, 9, 4, 3)
		conflicts(t, l, 4, spans(on(k(9))), false)
	}
	conflicts(t, l, 5, spans(on(k(3))), true)
	adds(t, l, 10, api.OK)
	is(t, l, 10, 4, 3)
	adds(t, l, math.MaxInt, api.OK, k(4))
	is(t, l, math.MaxInt, 4, 4)
	adds(t, l, math.MaxInt, api.EArg, k(5))
	is(t, l, math.MaxInt, 4, 4)
	conflicts(t, l, math.MaxInt-1, all(), true)
	conflicts(t, l, math.MaxInt, all(), false)
}

// TestAddWithoutKeys (S1): such a commit is known, and Last, but nobody is told of a conflict for it.
func TestAddWithoutKeys(t *testing.T) {
	l := log.New(0)
	if err := l.Add(2, nil); err != api.OK {
		t.Error(err)
	}
	if err := l.Add(4, []api.Key{}); err != api.OK {
		t.Error(err)
	}
	is(t, l, 4, 0, 0)
	for since := range 5 {
		conflicts(t, l, since, all(), false)
	}
	refuses(t, l, 5, all(), api.EArg)
	adds(t, l, 4, api.EArg, k(1))
	l.Prune(3)
	is(t, l, 4, 3, 0)
	adds(t, l, 5, api.OK, k(1))
	conflicts(t, l, 4, all(), true)
	conflicts(t, l, 5, all(), false)
}

// TestSameKeyInSeveral (S1): each commit has it for itself, and is forgotten for itself.
func TestSameKeyInSeveral(t *testing.T) {
	l := log.New(0)
	for _, n := range []int{2, 4, 6} {
		adds(t, l, n, api.OK, k(1))
	}
	is(t, l, 6, 0, 3)
	for since := range 6 {
		conflicts(t, l, since, spans(of(k(1), k(2))), true)
	}
	conflicts(t, l, 6, spans(of(k(1), k(2))), false)
	l.Prune(4)
	is(t, l, 6, 4, 1)
	conflicts(t, l, 4, spans(of(k(1), k(2))), true)
	conflicts(t, l, 5, spans(of(k(1), k(2))), true)
	l.Prune(6)
	is(t, l, 6, 6, 0)
	conflicts(t, l, 6, spans(of(k(1), k(2))), false)
}

// TestSameKeyTwice (S1): the keys of a commit are those that were handed in, each as often.
func TestSameKeyTwice(t *testing.T) {
	l := log.New(0)
	adds(t, l, 2, api.OK, k(1), k(2), k(1))
	adds(t, l, 3, api.OK, k(2), k(2))
	is(t, l, 3, 0, 5)
	conflicts(t, l, 1, spans(of(k(1), k(2))), true)
	conflicts(t, l, 2, spans(of(k(1), k(2))), false)
	conflicts(t, l, 2, spans(of(k(2), k(3))), true)
	conflicts(t, l, 3, all(), false)
	l.Prune(2)
	is(t, l, 3, 2, 2)
	l.Prune(3)
	is(t, l, 3, 3, 0)
}

// TestSince (S1): it is from Floor to Last, and commits above it alone matter.
func TestSince(t *testing.T) {
	l := log.New(2)
	adds(t, l, 4, api.OK, k(1))
	adds(t, l, 5, api.OK, k(2))
	adds(t, l, 9, api.OK, k(3))
	for since := 2; since <= 9; since++ {
		for i, number := range []int{4, 5, 9} {
			conflicts(t, l, since, spans(of(k(byte(i+1)), k(byte(i+2)))), number > since)
		}
		conflicts(t, l, since, all(), since < 9)
		conflicts(t, l, since, nil, false)
	}
	for _, since := range []int{1, 0, -1, -2, math.MinInt} {
		refuses(t, l, since, all(), api.EState)
		refuses(t, l, since, nil, api.EState)
	}
	for _, since := range []int{10, 11, math.MaxInt} {
		refuses(t, l, since, all(), api.EArg)
		refuses(t, l, since, nil, api.EArg)
	}
	is(t, l, 9, 2, 3)
}

// TestOlderCommits (S1): all commits above since are looked through, the oldest of them too.
func TestOlderCommits(t *testing.T) {
	l := log.New(0)
	for n := 1; n <= 200; n++ {
		adds(t, l, n, api.OK, k(byte(n)), last(byte(n)))
	}
	for n := 1; n <= 200; n++ {
		for _, s := range [][]api.Span{spans(of(k(byte(n)), k(byte(n+1)))), spans(of(last(byte(n)), last(byte(n+1))))} {
			conflicts(t, l, 0, s, true)
			conflicts(t, l, n-1, s, true)
			conflicts(t, l, n, s, false)
		}
	}
}

// TestApart (R3): logs have nothing to do with each other.
func TestApart(t *testing.T) {
	a, b := log.New(1), log.New(1)
	adds(t, a, 2, api.OK, k(1))
	is(t, b, 1, 1, 0)
	conflicts(t, b, 1, all(), false)
	adds(t, b, 2, api.OK, k(2), k(3))
	conflicts(t, a, 1, spans(on(k(2))), false)
	a.Prune(2)
	is(t, a, 2, 2, 0)
	is(t, b, 2, 1, 2)
	conflicts(t, b, 1, spans(on(k(3))), true)
}
