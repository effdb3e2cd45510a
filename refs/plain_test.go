package refs_test

import (
	"slices"
	"testing"

	"wainscot/api"
	"wainscot/refs"
)

// plain is the chapter's words, with a count for each number: those of 0 and 1 are not asked for.
type plain []int

// reply is whatever a call answers.
type reply struct {
	n   int
	ok  bool
	err api.Errno
}

func (p plain) take() reply {
	for n := 2; n < len(p); n++ {
		if p[n] == 0 {
			p[n] = 1
			return reply{n: n, ok: true}
		}
	}
	return reply{}
}

// add counts a block up or down; marking lets it do so where the block is free.
func (p plain) add(n, by int, marking bool) reply {
	if n < 2 || n >= len(p) {
		return reply{err: api.EArg}
	}
	if p[n] == 0 && !marking {
		return reply{err: api.EState}
	}
	was := p[n]
	p[n] += by
	return reply{ok: marking && was == 0 || p[n] == 0}
}

func (p plain) used() []int {
	var l []int
	for n, c := range p {
		if c > 0 {
			l = append(l, n)
		}
	}
	return l
}

// calls is how many other calls there are, of so many blocks: Take, and three of each number from 1 to one behind the last.
func calls(blocks int) int { return 1 + 3*blocks }

// call does the call of this number on both, and asks that they answer the same, and say the same then.
func call(t *testing.T, r *refs.Refs, p plain, which int) {
	t.Helper()
	var got, want reply
	n := 1 + (which-1)/3
	switch {
	case which == 0:
		got.n, got.ok = r.Take()
		want = p.take()
	case which%3 == 0:
		got.err = r.Inc(n)
		want = p.add(n, 1, false)
	case which%3 == 1:
		got.ok, got.err = r.Dec(n)
		want = p.add(n, -1, false)
	default:
		got.ok, got.err = r.Mark(n)
		want = p.add(n, 1, true)
	}
	if got != want {
		t.Fatalf("call %d: %v; want %v", which, got, want)
	}
	says(t, r, p)
}

func says(t *testing.T, r *refs.Refs, p plain) {
	t.Helper()
	l := p.used()
	if got := r.Used(); !slices.Equal(got, l) || r.Free() != len(p)-2-len(l) {
		t.Fatalf("%d free, used %v; want %v", r.Free(), got, l)
	}
	for n, c := range p {
		if r.Count(n) != c {
			t.Fatalf("Count %d: %d; want %d", n, r.Count(n), c)
		}
	}
}

// every does all rows of so many calls, each on clones; what was cloned stays as it was.
func every(t *testing.T, r *refs.Refs, p plain, depth int) {
	t.Helper()
	if depth == 0 {
		return
	}
	for which := range calls(len(p)) {
		c, q := r.Clone(), slices.Clone(p)
		call(t, c, q, which)
		if r.Same(c) != slices.Equal(p, q) || c.Same(r) != slices.Equal(p, q) {
			t.Fatalf("%v, %v: same %v", p, q, r.Same(c))
		}
		every(t, c, q, depth-1)
		says(t, r, p)
	}
}

// TestEveryRow (F1, F2): all rows of a few calls, of few blocks.
func TestEveryRow(t *testing.T) {
	for _, x := range []struct{ blocks, depth int }{{2, 4}, {3, 5}, {4, 4}, {6, 3}} {
		every(t, refs.New(x.blocks), make(plain, x.blocks), x.depth)
	}
}

// TestLongRows (F1, F2): long rows of calls, of more blocks; at first more is taken than given back, then less.
func TestLongRows(t *testing.T) {
	for _, blocks := range []int{3, 5, 9, 17, 40} {
		r, p := refs.New(blocks), make(plain, blocks)
		seed := uint32(blocks)
		next := func(below int) int {
			seed = seed*1664525 + 1013904223
			return int(seed>>8) % below
		}
		for i := range 6000 {
			switch taking := i/1000%2 == 0; {
			case taking && next(3) == 0:
				call(t, r, p, 0)
			case !taking && next(2) == 0 && len(p.used()) > 0:
				l := p.used()
				call(t, r, p, 3*l[next(len(l))]-2)
			default:
				call(t, r, p, next(calls(blocks)))
			}
		}
	}
}
