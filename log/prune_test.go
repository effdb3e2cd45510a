package log_test

import (
	"math"
	"runtime"
	"testing"

	"wainscot/api"
	"wainscot/log"
)

// four is a log of four commits behind 2, one of them without keys.
func four(t *testing.T) *log.Log {
	t.Helper()
	l := log.New(2)
	adds(t, l, 4, api.OK, k(1), k(2))
	adds(t, l, 5, api.OK, k(3))
	adds(t, l, 8, api.OK)
	adds(t, l, 9, api.OK, k(4), k(5), k(1))
	is(t, l, 9, 2, 6)
	return l
}

// TestPrune (S1): commits up to oldest are known no more, and the floor rises to it, but not above Last; once more, it changes nothing.
func TestPrune(t *testing.T) {
	for _, c := range []struct{ oldest, floor, length int }{
		{math.MinInt, 2, 6}, {-1, 2, 6}, {0, 2, 6}, {1, 2, 6}, // below Floor
		{2, 2, 6},            // at it
		{3, 3, 6}, {4, 4, 4}, // above it
		{5, 5, 3}, {6, 6, 3}, {7, 7, 3}, {8, 8, 3}, // between two commits
		{9, 9, 0},                                                    // at Last
		{10, 9, 0}, {11, 9, 0}, {1 << 40, 9, 0}, {math.MaxInt, 9, 0}, // above it
	} {
		l := four(t)
		for range 2 {
			l.Prune(c.oldest)
			is(t, l, 9, c.floor, c.length)
			refuses(t, l, c.floor-1, all(), api.EState)
			refuses(t, l, 10, all(), api.EArg)
			for since := c.floor; since <= 9; since++ {
				conflicts(t, l, since, all(), since < 9)
				conflicts(t, l, since, spans(of(k(3), k(4))), since < 5)
				conflicts(t, l, since, spans(of(k(2), k(3))), since < 4)
			}
		}
		adds(t, l, 9, api.EArg, k(7))
		adds(t, l, 10, api.OK, k(7))
		is(t, l, 10, c.floor, c.length+1)
		conflicts(t, l, c.floor, spans(of(k(7), k(8))), true)
		conflicts(t, l, 9, spans(of(k(7), k(8))), true)
		conflicts(t, l, 10, all(), false)
		l.Prune(9)
		is(t, l, 10, 9, 1)
	}
}

// TestPruneAgain (S1): bit by bit, up and down; the floor never falls.
func TestPruneAgain(t *testing.T) {
	l := four(t)
	for _, c := range []struct{ oldest, floor, length int }{
		{4, 4, 4}, {3, 4, 4}, {0, 4, 4}, {-5, 4, 4}, {5, 5, 3}, {4, 5, 3}, {7, 7, 3}, {6, 7, 3},
		{8, 8, 3}, {9, 9, 0}, {2, 9, 0}, {9, 9, 0}, {12, 9, 0}, {math.MinInt, 9, 0},
	} {
		l.Prune(c.oldest)
		is(t, l, 9, c.floor, c.length)
	}
	conflicts(t, l, 9, all(), false)
	refuses(t, l, 8, all(), api.EState)
}

// TestPruneNone (S1): of a log without commits; Floor is Last already.
func TestPruneNone(t *testing.T) {
	for _, oldest := range []int{math.MinInt, -1, 0, 2, 3, 4, math.MaxInt} {
		l := log.New(3)
		l.Prune(oldest)
		is(t, l, 3, 3, 0)
		conflicts(t, l, 3, all(), false)
		adds(t, l, 4, api.OK, k(1))
		is(t, l, 4, 3, 1)
		conflicts(t, l, 3, all(), true)
	}
}

// TestPruneAboveLast (S1): a commit that is added behind it is known, though its number is not above what was pruned.
func TestPruneAboveLast(t *testing.T) {
	l := log.New(0)
	adds(t, l, 1, api.OK, k(1))
	l.Prune(100)
	is(t, l, 1, 1, 0)
	adds(t, l, 50, api.OK, k(2))
	is(t, l, 50, 1, 1)
	conflicts(t, l, 1, all(), true)
	conflicts(t, l, 49, all(), true)
	conflicts(t, l, 50, all(), false)
}

// TestAddBehindPrune (S1): what is left, and what is added behind it, are both known.
func TestAddBehindPrune(t *testing.T) {
	l := log.New(0)
	for n := 1; n <= 300; n++ {
		adds(t, l, n, api.OK, k(byte(n)), last(byte(n)))
		if n%7 == 0 {
			l.Prune(n - 10)
		}
		floor := max(n-n%7-10, 0)
		is(t, l, n, floor, 2*(n-floor))
		for old := floor + 1; old <= n; old++ {
			s := spans(of(last(byte(old)), last(byte(old+1))))
			conflicts(t, l, old-1, s, byte(old) != 255)
			conflicts(t, l, n, s, false)
		}
	}
}

// heap is how many bytes are kept in all.
func heap() int {
	runtime.GC()
	var s runtime.MemStats
	runtime.ReadMemStats(&s)
	return int(s.HeapAlloc)
}

// TestPrunedIsForgotten (S1): the keys of what is known no more are not kept.
func TestPrunedIsForgotten(t *testing.T) {
	l, many := log.New(0), make([]api.Key, 1000)
	before := heap()
	for n := 1; n <= 2000; n++ {
		adds(t, l, n, api.OK, many...)
		l.Prune(n - 5)
	}
	if kept := heap() - before; kept > 1<<20 {
		t.Errorf("%d bytes more are kept", kept)
	}
	is(t, l, 2000, 1995, 5000)
}
