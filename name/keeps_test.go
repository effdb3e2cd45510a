package name_test

import (
	"slices"
	"testing"

	"wainscot/name"
)

// TestJoinKeepsNames (R1): names stay as they were, and so does what stands behind them; a path stays as it is while they are written over.
func TestJoinKeepsNames(t *testing.T) {
	for _, l := range [][]string{list("a", "bé", "c"), list("a", ".", "c"), full(9), full(10), {}} {
		whole := slices.Concat(l, list("r", "/", ""))
		want, wantOk := plainJoin(l)
		got, ok := name.Join(whole[:len(l)])
		if !slices.Equal(whole, slices.Concat(l, list("r", "/", ""))) {
			t.Errorf("Join of %q: what was handed in is changed", l)
		}
		for i := range whole {
			whole[i] = "z"
		}
		if got != want || ok != wantOk {
			t.Errorf("Join of %q: %q, %v", l, got, ok)
		}
	}
}

// TestSplitIsTheCallers (R1, R3): names that are written over, and what is put behind them, change no other answer.
func TestSplitIsTheCallers(t *testing.T) {
	for _, path := range list("/a/bé/c", "/a", "/", "/a/b/c/d/e/f/g") {
		want, _ := plainSplit(path)
		first, _ := name.Split(path)
		second, _ := name.Split(path)
		first = first[:cap(first)]
		for i := range first {
			first[i] = "z"
		}
		_ = append(first[:len(want)], "y")
		third, ok := name.Split(path)
		if !slices.Equal(second, want) || !slices.Equal(third, want) || !ok {
			t.Errorf("Split of %q: %q, %q, %v", path, second, third, ok)
		}
		if !name.Below(path, path) || !name.Below(path, "/") {
			t.Errorf("Below of %q", path)
		}
	}
}

// TestSameAgain (R4): the same calls have the same answers, whatever was asked between.
func TestSameAgain(t *testing.T) {
	for range 3 {
		for _, s := range list("", "/", "a", "/a", "/a/b", "\xff", "/\xff", "日本\xffd", longest, longest+"x") {
			all(t, s)
			if got := name.Below(s, "/a"); got != plainBelow(s, "/a") {
				t.Errorf("Below of %q, /a: %v", s, got)
			}
		}
	}
}
