package refs_test

import (
	"math"
	"testing"

	"wainscot/api"
	"wainscot/refs"
)

func takes(t *testing.T, r *refs.Refs, want ...int) {
	t.Helper()
	for _, w := range want {
		if n, ok := r.Take(); n != w || !ok {
			t.Fatalf("Take: %d %v; want %d", n, ok, w)
		}
	}
}

// takesNot asks for no block, with nothing beside it.
func takesNot(t *testing.T, r *refs.Refs) {
	t.Helper()
	if n, ok := r.Take(); n != 0 || ok {
		t.Fatalf("Take: %d %v; want none", n, ok)
	}
}

func incs(t *testing.T, r *refs.Refs, n int, want api.Errno) {
	t.Helper()
	if e := r.Inc(n); e != want {
		t.Fatalf("Inc %d: %v; want %v", n, e, want)
	}
}

func decs(t *testing.T, r *refs.Refs, n int, free bool, want api.Errno) {
	t.Helper()
	if f, e := r.Dec(n); f != free || e != want {
		t.Fatalf("Dec %d: %v %v; want %v %v", n, f, e, free, want)
	}
}

func marks(t *testing.T, r *refs.Refs, n int, was bool, want api.Errno) {
	t.Helper()
	if w, e := r.Mark(n); w != was || e != want {
		t.Fatalf("Mark %d: %v %v; want %v %v", n, w, e, was, want)
	}
}

// nowhere are numbers that no block has, where there are so many blocks.
func nowhere(blocks int) []int {
	return []int{
		math.MinInt, math.MinInt + 2, -1 << 32, 2 - 1<<32, -3, -2, -1, 0, 1,
		blocks, blocks + 1, blocks + 2, 1 << 32, 1<<32 + 2, 1<<32 + 3, 1<<40 + 2, math.MaxInt,
	}
}

// refuses asks that there is no block of this number, and that nothing comes of asking for it.
func refuses(t *testing.T, r *refs.Refs, n int) {
	t.Helper()
	was := r.Clone()
	incs(t, r, n, api.EArg)
	decs(t, r, n, false, api.EArg)
	marks(t, r, n, false, api.EArg)
	if c := r.Count(n); c != 0 {
		t.Fatalf("Count %d: %d", n, c)
	}
	if !r.Same(was) || r.Free() != was.Free() {
		t.Fatalf("%d changed something", n)
	}
}

// TestExample (F1): the chapter's example.
func TestExample(t *testing.T) {
	r := refs.New(5)
	takes(t, r, 2, 3)
	incs(t, r, 2, api.OK)
	decs(t, r, 2, false, api.OK)
	decs(t, r, 2, true, api.OK)
	takes(t, r, 2, 4)
	takesNot(t, r)
}

// TestSizes (F1, F2): less than 2 counts as 2, more than 2^32 as that; there are just the blocks from 2 on below that.
func TestSizes(t *testing.T) {
	for _, c := range []struct{ blocks, want int }{
		{math.MinInt, 2}, {-1 << 32, 2}, {-1, 2}, {0, 2}, {1, 2}, {2, 2}, {3, 3}, {4, 4}, {1000, 1000},
		{1<<32 - 1, 1<<32 - 1}, {1 << 32, 1 << 32}, {1<<32 + 1, 1 << 32}, {1<<32 + 5, 1 << 32}, {math.MaxInt, 1 << 32},
	} {
		r := refs.New(c.blocks)
		if r.Free() != c.want-2 || len(r.Used()) != 0 {
			t.Errorf("New(%d): %d free, %d used", c.blocks, r.Free(), len(r.Used()))
		}
		if !r.Same(refs.New(c.want)) {
			t.Errorf("New(%d): not as New(%d)", c.blocks, c.want)
		}
		for _, n := range nowhere(c.want) {
			refuses(t, r, n)
		}
		if c.want == 2 {
			takesNot(t, r)
			refuses(t, r, 2)
			continue
		}
		last := c.want - 1
		incs(t, r, last, api.EState)
		marks(t, r, last, true, api.OK)
		incs(t, r, last, api.OK)
		if r.Count(last) != 2 || r.Free() != c.want-3 {
			t.Errorf("New(%d): the last one counts %d, %d are free", c.blocks, r.Count(last), r.Free())
		}
		for _, n := range nowhere(c.want) {
			refuses(t, r, n)
		}
		decs(t, r, last, false, api.OK)
		decs(t, r, last, true, api.OK)
		takes(t, r, 2)
	}
}

// TestSmallest (F1): of two blocks there is none to take, of three just one.
func TestSmallest(t *testing.T) {
	two, three := refs.New(2), refs.New(3)
	for range 3 {
		takesNot(t, two)
		takes(t, three, 2)
		takesNot(t, three)
		takesNot(t, three)
		decs(t, three, 2, true, api.OK)
	}
}

// TestOfFree (F1): Inc and Dec refuse a block that is free, at first, and when it is free again; Mark does not.
func TestOfFree(t *testing.T) {
	r := refs.New(6)
	refusesFree := func() {
		t.Helper()
		was := r.Clone()
		for n := 2; n < 6; n++ {
			if r.Count(n) == 0 {
				incs(t, r, n, api.EState)
				decs(t, r, n, false, api.EState)
			}
		}
		if !r.Same(was) || r.Free() != was.Free() {
			t.Fatalf("something changed")
		}
	}
	refusesFree()
	takes(t, r, 2, 3)
	refusesFree()
	decs(t, r, 2, true, api.OK)
	refusesFree()
	marks(t, r, 5, true, api.OK)
	refusesFree()
	decs(t, r, 5, true, api.OK)
	refusesFree()
	decs(t, r, 3, true, api.OK)
	refusesFree()
	if !r.Same(refs.New(6)) {
		t.Errorf("not as at first")
	}
}

// TestCounting (F1, F2): Inc and Mark count up, Dec down, to the last one, of this block alone.
func TestCounting(t *testing.T) {
	r := refs.New(8)
	takes(t, r, 2, 3, 4)
	counts := func(want int) {
		t.Helper()
		for n, w := range []int{0, 0, 1, want, 1, 0, 0, 0, 0} {
			if c := r.Count(n); c != w {
				t.Fatalf("Count %d: %d; want %d", n, c, w)
			}
		}
	}
	for i := range 300 {
		counts(1 + 2*i)
		incs(t, r, 3, api.OK)
		counts(2 + 2*i)
		marks(t, r, 3, false, api.OK)
	}
	if r.Free() != 3 {
		t.Errorf("%d free", r.Free())
	}
	for i := 600; i > 0; i-- {
		decs(t, r, 3, false, api.OK)
		counts(i)
	}
	decs(t, r, 3, true, api.OK)
	counts(0)
	decs(t, r, 3, false, api.EState)
	marks(t, r, 3, true, api.OK)
	counts(1)
}

// TestTake (F1): always the least one that is free, with the count 1.
func TestTake(t *testing.T) {
	r := refs.New(8)
	marks(t, r, 3, true, api.OK)
	marks(t, r, 5, true, api.OK)
	marks(t, r, 5, false, api.OK)
	takes(t, r, 2, 4, 6)
	for n, w := range []int{0, 0, 1, 1, 1, 2, 1, 0} {
		if c := r.Count(n); c != w {
			t.Errorf("Count %d: %d; want %d", n, c, w)
		}
	}
	// Of two that are free again, in either order, the lesser one comes first.
	decs(t, r, 6, true, api.OK)
	decs(t, r, 3, true, api.OK)
	takes(t, r, 3, 6)
	decs(t, r, 3, true, api.OK)
	decs(t, r, 6, true, api.OK)
	takes(t, r, 3, 6, 7)
	takesNot(t, r)
	// One that still counts is not taken.
	decs(t, r, 5, false, api.OK)
	takesNot(t, r)
	decs(t, r, 5, true, api.OK)
	decs(t, r, 2, true, api.OK)
	takes(t, r, 2, 5)
	takesNot(t, r)
	// Nor is one that was free again, and then marked.
	decs(t, r, 4, true, api.OK)
	decs(t, r, 7, true, api.OK)
	marks(t, r, 4, true, api.OK)
	takes(t, r, 7)
	takesNot(t, r)
	if r.Free() != 0 || len(r.Used()) != 6 {
		t.Errorf("%d free, used %v", r.Free(), r.Used())
	}
}

// TestTakeOfMany (F1): all blocks, each once; then those that are free again.
func TestTakeOfMany(t *testing.T) {
	const blocks = 20000
	r := refs.New(blocks)
	for n := 2; n < blocks; n++ {
		takes(t, r, n)
	}
	takesNot(t, r)
	for n := blocks - 1; n >= 2; n -= 7 {
		decs(t, r, n, true, api.OK)
	}
	for n := 2 + (blocks-3)%7; n < blocks; n += 7 {
		takes(t, r, n)
	}
	takesNot(t, r)
}
