package refs_test

import (
	"math"
	"slices"
	"testing"

	"wainscot/api"
	"wainscot/refs"
)

// with are so many blocks of which some are marked, as often as they are told.
func with(blocks int, marked ...int) *refs.Refs {
	r := refs.New(blocks)
	for _, n := range marked {
		r.Mark(n)
	}
	return r
}

func used(t *testing.T, r *refs.Refs, want ...int) {
	t.Helper()
	if got := r.Used(); !slices.Equal(got, want) {
		t.Fatalf("used %v; want %v", got, want)
	}
}

// TestUsed (F2): just those that are not free, rising, each once.
func TestUsed(t *testing.T) {
	r := refs.New(1 << 32)
	used(t, r)
	for _, n := range []int{1<<32 - 1, 70000, 9, 1 << 31, 10, 255, 256, 100, 1<<31 - 1, 70000, 9} {
		r.Mark(n)
	}
	takes(t, r, 2)
	used(t, r, 2, 9, 10, 100, 255, 256, 70000, 1<<31-1, 1<<31, 1<<32-1)
	if r.Free() != 1<<32-12 {
		t.Errorf("%d free", r.Free())
	}
	decs(t, r, 9, false, api.OK)
	decs(t, r, 1<<31, true, api.OK)
	decs(t, r, 2, true, api.OK)
	used(t, r, 9, 10, 100, 255, 256, 70000, 1<<31-1, 1<<32-1)
	if r.Free() != 1<<32-10 {
		t.Errorf("%d free", r.Free())
	}
}

// TestUsedOfMany (F2): in order, whatever the order was in which they were marked.
func TestUsedOfMany(t *testing.T) {
	const blocks = 1009
	r := refs.New(blocks + 2)
	for i := range blocks {
		marks(t, r, 2+i*389%blocks, true, api.OK)
		if l := r.Used(); len(l) != i+1 || !slices.IsSorted(l) || r.Free() != blocks-i-1 {
			t.Fatalf("%d free, used %v", r.Free(), l)
		}
	}
}

// TestUsedIsTheCallers (F2, R1): written over, or added to, it changes nothing within.
func TestUsedIsTheCallers(t *testing.T) {
	r := with(9, 3, 5, 8)
	l := r.Used()
	l[0], l[1] = 4, math.MinInt
	_ = append(l[:1], 6, 7)
	used(t, r, 3, 5, 8)
	takes(t, r, 2, 4)
	used(t, r, 2, 3, 4, 5, 8)
	if l[2] != 7 {
		t.Errorf("an answer changed: %v", l)
	}
}

// TestSame (F2): just those with as many blocks and the same counts.
func TestSame(t *testing.T) {
	l := []*refs.Refs{refs.New(2), refs.New(3), refs.New(9), with(9, 2), with(9, 3), with(9, 8)}
	l = append(l, with(9, 2, 2), with(9, 2, 3), with(9, 2, 4), with(9, 3, 3, 4), with(9, 3, 4, 4))
	l = append(l, with(8, 2, 3), with(10, 2, 3), with(1<<32, 2, 3), with(1<<32-1, 2, 3))
	for i, a := range l {
		for j, b := range l {
			if a.Same(b) != (i == j) {
				t.Errorf("%d and %d: %v", i, j, a.Same(b))
			}
		}
		if a.Same(nil) || a.Same(&refs.Refs{}) {
			t.Errorf("%d is the same as nothing", i)
		}
		if !a.Same(a.Clone()) || !a.Clone().Same(a) {
			t.Errorf("%d is not the same as its clone", i)
		}
	}
}

// TestSameButOne (F2): one count that is one more, or one less, is enough to differ.
func TestSameButOne(t *testing.T) {
	a := with(12, 2, 4, 4, 5, 5, 5, 7, 9, 9, 11)
	for n := 2; n < 12; n++ {
		more := a.Clone()
		more.Mark(n)
		if a.Same(more) || more.Same(a) {
			t.Errorf("one more of %d", n)
		}
		more.Dec(n)
		if !a.Same(more) || !more.Same(a) {
			t.Errorf("%d as ahead", n)
		}
		if a.Count(n) == 0 {
			continue
		}
		less := a.Clone()
		less.Dec(n)
		if a.Same(less) || less.Same(a) {
			t.Errorf("one less of %d", n)
		}
	}
}

// TestSameByOtherWays (F2): how the counts came about does not matter.
func TestSameByOtherWays(t *testing.T) {
	a := refs.New(6)
	takes(t, a, 2, 3, 4, 5)
	takesNot(t, a)
	decs(t, a, 3, true, api.OK)
	decs(t, a, 2, true, api.OK)
	incs(t, a, 5, api.OK)
	b := with(6, 5, 4, 5)
	if !a.Same(b) || !b.Same(a) {
		t.Errorf("not the same: %v, %v", a.Used(), b.Used())
	}
	takes(t, a, 2, 3)
	takes(t, b, 2, 3)
	if !a.Same(b) || !b.Same(a) {
		t.Errorf("not the same: %v, %v", a.Used(), b.Used())
	}
	for n := range 6 {
		for a.Count(n) > 0 {
			a.Dec(n)
		}
	}
	if !a.Same(refs.New(6)) || !refs.New(6).Same(a) {
		t.Errorf("not as at first: %v", a.Used())
	}
}

// TestClone (F2): it says the same, and goes on by itself, both ways.
func TestClone(t *testing.T) {
	r := with(7, 2, 4, 4)
	for range 2 {
		c := r.Clone()
		used(t, c, 2, 4)
		if !r.Same(c) || !c.Same(r) || c.Free() != 3 || c.Count(2) != 1 || c.Count(4) != 2 {
			t.Fatalf("another one: %v", c.Used())
		}
		takes(t, c, 3, 5)
		incs(t, c, 2, api.OK)
		marks(t, c, 6, true, api.OK)
		takesNot(t, c)
		decs(t, c, 4, false, api.OK)
		decs(t, c, 4, true, api.OK)
		used(t, c, 2, 3, 5, 6)
		used(t, r, 2, 4)
		if r.Same(c) || c.Same(r) || r.Free() != 3 || r.Count(2) != 1 || r.Count(4) != 2 {
			t.Fatalf("the first one changed: %v", r.Used())
		}
	}
	c := r.Clone()
	takes(t, r, 3, 5, 6)
	takesNot(t, r)
	decs(t, r, 2, true, api.OK)
	incs(t, r, 4, api.OK)
	used(t, c, 2, 4)
	if c.Free() != 3 || c.Count(2) != 1 || c.Count(4) != 2 {
		t.Fatalf("the clone changed: %v", c.Used())
	}
	takes(t, c, 3, 5, 6)
	takesNot(t, c)
	takes(t, r, 2)
}

// TestCloneOfEdges (F2): also of one without blocks, of one that is full, and of the greatest one.
func TestCloneOfEdges(t *testing.T) {
	none := refs.New(2).Clone()
	takesNot(t, none)
	refuses(t, none, 2)

	full := with(4, 2, 3)
	takesNot(t, full)
	c := full.Clone()
	takesNot(t, c)
	decs(t, c, 2, true, api.OK)
	takesNot(t, full)
	decs(t, full, 3, true, api.OK)
	takes(t, c, 2)
	takes(t, full, 3)
	refuses(t, c, 4)

	vast := refs.New(1 << 32).Clone()
	if vast.Free() != 1<<32-2 {
		t.Errorf("%d free", vast.Free())
	}
	marks(t, vast, 1<<32-1, true, api.OK)
	refuses(t, vast, 1<<32)
}

// TestApart (R3): two that were made have nothing to do with each other.
func TestApart(t *testing.T) {
	a, b := refs.New(5), refs.New(5)
	takes(t, a, 2, 3)
	takes(t, b, 2)
	incs(t, a, 2, api.OK)
	decs(t, b, 2, true, api.OK)
	used(t, a, 2, 3)
	used(t, b)
	if a.Count(2) != 2 || b.Count(2) != 0 {
		t.Errorf("%d, %d", a.Count(2), b.Count(2))
	}
}

// TestTellsOnly (F2): telling changes nothing.
func TestTellsOnly(t *testing.T) {
	r := with(6, 3, 3, 5)
	for range 3 {
		for n := -1; n < 8; n++ {
			r.Count(n)
		}
		r.Free()
		r.Used()
		r.Same(nil)
		r.Same(r)
		r.Clone()
	}
	used(t, r, 3, 5)
	if !r.Same(with(6, 3, 3, 5)) || r.Free() != 2 {
		t.Errorf("something changed")
	}
	takes(t, r, 2, 4)
	takesNot(t, r)
}
