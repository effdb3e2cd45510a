package log_test

import (
	"fmt"
	"slices"
	"testing"

	"wainscot/api"
	"wainscot/log"
)

// TestKeepsNoKeys (R1): who owns the list that was handed to Add may write over it, and what stands behind it; it stays as it was till then.
func TestKeepsNoKeys(t *testing.T) {
	l := log.New(0)
	whole := keys(k(1), k(2), k(3), k(8), k(9))
	handed, was := whole[:3], slices.Clone(whole)
	adds(t, l, 1, api.OK, handed...)
	conflicts(t, l, 0, all(), true)
	if !slices.Equal(whole, was) {
		t.Errorf("what was handed in is changed: %x", whole)
	}
	for i := range whole {
		whole[i] = k(byte(100 + i))
	}
	is(t, l, 1, 0, 3)
	conflicts(t, l, 0, spans(on(k(100))), false)
	for b := byte(1); b <= 3; b++ {
		conflicts(t, l, 0, spans(of(k(b), k(b+1))), true)
	}

	adds(t, l, 2, api.OK, handed...)
	clear(whole)
	is(t, l, 2, 0, 6)
	conflicts(t, l, 1, spans(of(k(100), k(103))), true)
	conflicts(t, l, 1, spans(of(k(0), k(100))), false)
	conflicts(t, l, 0, spans(of(k(0), k(1))), false)

	l.Prune(1)
	if !slices.Equal(whole, make([]api.Key, 5)) {
		t.Errorf("what was handed in is changed: %x", whole)
	}
}

// TestKeepsNoKeysRefused (R1): nor is a list changed that is not taken.
func TestKeepsNoKeysRefused(t *testing.T) {
	l := log.New(5)
	handed := keys(k(3), k(1), k(3))
	adds(t, l, 5, api.EArg, handed...)
	if !slices.Equal(handed, keys(k(3), k(1), k(3))) {
		t.Errorf("what was handed in is changed: %x", handed)
	}
}

// TestKeepsNoSpans (R1): the spans that are asked for stay as they were, and are asked for but once.
func TestKeepsNoSpans(t *testing.T) {
	l := log.New(0)
	adds(t, l, 1, api.OK, k(5))
	whole := spans(of(k(9), k(7)), of(k(3), k(4)), of(k(3), k(3)), of(k(1), k(6)), on(k(5)))
	was := slices.Clone(whole)
	conflicts(t, l, 0, whole[:3], false)
	conflicts(t, l, 0, whole[:4], true)
	refuses(t, l, 2, whole[:4], api.EArg)
	if !slices.Equal(whole, was) {
		t.Errorf("what was handed in is changed: %v", whole)
	}
	clear(whole)
	conflicts(t, l, 0, whole, false)
	conflicts(t, l, 0, was[:4], true)
}

// TestTellsOnly (S1): asking changes nothing.
func TestTellsOnly(t *testing.T) {
	l := log.New(2)
	adds(t, l, 4, api.OK, k(1), k(2))
	adds(t, l, 6, api.OK, k(3))
	for range 3 {
		for since := 0; since < 9; since++ {
			l.Conflicts(since, all())
			l.Conflicts(since, nil)
		}
		is(t, l, 6, 2, 3)
	}
	conflicts(t, l, 2, spans(of(k(2), k(3))), true)
	conflicts(t, l, 4, spans(of(k(2), k(3))), false)
}

// TestSameAgain (R4): the same calls have the same answers, on each log that they are done on.
func TestSameAgain(t *testing.T) {
	tells := func() string {
		l, d, told := log.New(1), dice(3), ""
		for range 300 {
			s := d.step(l.Last())
			got, err := s.of(l)
			told += fmt.Sprint(got, err, l.Last(), l.Floor(), l.Len(), " ")
		}
		return told
	}
	first := tells()
	for range 5 {
		if tells() != first {
			t.Error("other answers")
		}
	}
}
