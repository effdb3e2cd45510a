package chunk_test

import (
	"math"
	"slices"
	"testing"

	"wainscot/api"
	"wainscot/chunk"
	"wainscot/view"
)

// base is a base of pairs that counts what it is asked, and answers an error, with more beside it, from the call fails on (0: never).
type base struct {
	pairs        []api.Pair
	asked, fails int
	err          api.Errno
	scans, gets  int
}

func (b *base) wrong() bool {
	b.asked++
	return b.fails > 0 && b.asked >= b.fails
}

func (b *base) Get(k api.Key) (string, bool, api.Errno) {
	b.gets++
	if b.wrong() {
		return "more", true, b.err
	}
	return view.NewPlain(b.pairs).Get(k)
}

func (b *base) Scan(s api.Span) ([]api.Pair, api.Errno) {
	b.scans++
	if b.wrong() {
		return pairs(has(7, 0, "more")), b.err
	}
	return view.NewPlain(b.pairs).Scan(s)
}

// numbers is of inodes, and others that are none.
var numbers = []struct {
	ino int
	ok  bool
}{
	{math.MinInt, false}, {-1 << 32, false}, {-1<<32 + 7, false}, {-1 << 30, false}, {-1, false}, {0, false},
	{1, true}, {2, true}, {255, true}, {256, true}, {1<<24 + 3, true}, {1<<30 - 2, true}, {1<<30 - 1, true},
	{1 << 30, false}, {1<<30 + 1, false}, {1<<31 - 1, false}, {1 << 32, false}, {1<<32 + 7, false}, {math.MaxInt, false},
}

// TestNumbers (M1): inodes' numbers are from 1 to 2^30 - 1.
func TestNumbers(t *testing.T) {
	for _, c := range numbers {
		want := api.EArg
		if c.ok {
			want = api.OK
		}
		for _, off := range []int{0, 31, 1<<20 - 3} {
			v := view.New(nil)
			err(t, "Write", chunk.Write(v, c.ino, off, "abc"), want)
			s, e := chunk.Read(v, c.ino, off, 3)
			err(t, "Read", e, want)
			if c.ok != (s == "abc") || !c.ok && s != "" {
				t.Errorf("Read of %d: %q", c.ino, s)
			}
			err(t, "Cut", chunk.Cut(v, c.ino, off), want)
			if !c.ok {
				touched(t, "no number", v, nil, nil)
				continue
			}
			is(t, "Reads", v.Reads(), spans(placesOn(c.ino, off/32)))
		}
		v := view.New(nil)
		err(t, "Write of nothing", chunk.Write(v, c.ino, 0, ""), want)
		_, e := chunk.Read(v, c.ino, 0, 0)
		err(t, "Read of nothing", e, want)
		err(t, "Cut behind all", chunk.Cut(v, c.ino, 1<<20), want)
	}
}

// edges is numbers below 0, about MaxSize, and so far away that sums of them run over.
var edges = []int{
	math.MinInt, math.MinInt + 1, -1 << 32, -1 << 31, -1 << 20, -33, -32, -31, -2, -1, 0, 1, 2, 31, 32, 33, 1 << 19,
	1<<20 - 33, 1<<20 - 32, 1<<20 - 31, 1<<20 - 2, 1<<20 - 1, 1 << 20, 1<<20 + 1, 1<<20 + 2, 1<<20 + 32, 1 << 21, 1<<31 - 1, 1 << 31, 1 << 32, 1<<32 + 5, math.MaxInt - 1<<20, math.MaxInt - 1, math.MaxInt,
}

// isSize tells whether a number is from 0 to MaxSize.
func isSize(n int) bool { return n >= 0 && n <= 1048576 }

// TestReadEdges (M1): off and n, alone and together.
func TestReadEdges(t *testing.T) {
	for _, off := range edges {
		for _, n := range edges {
			f := &base{pairs: pairs(has(7, 0, "a"), has(7, 32767, many(32)))}
			v := view.New(f)
			s, e := chunk.Read(v, 7, off, n)
			switch {
			case !isSize(off) || !isSize(n) || !isSize(off+n):
				if s != "" || e != api.EArg || f.asked != 0 {
					t.Errorf("Read of %d, %d: %d bytes, %v, asked %d times", off, n, len(s), e, f.asked)
				}
				touched(t, "wrong", v, nil, nil)
			case n == 0:
				if s != "" || e != api.OK || f.asked != 0 {
					t.Errorf("Read of %d, %d: %q, %v, asked %d times", off, n, s, e, f.asked)
				}
				touched(t, "no byte", v, nil, nil)
			default:
				if len(s) != n || e != api.OK || f.scans != 1 || f.gets != 0 {
					t.Errorf("Read of %d, %d: %d bytes, %v, %d scans, %d gets", off, n, len(s), e, f.scans, f.gets)
				}
				touched(t, "right", v, spans(places(7, off/32, (off+n-1)/32)), nil)
			}
		}
	}
}

// TestWriteEdges (M1): off, and how long data is, alone and together.
func TestWriteEdges(t *testing.T) {
	for _, off := range edges {
		for _, n := range []int{0, 1, 2, 31, 32, 33, 1 << 19, 1<<20 - 1, 1 << 20, 1<<20 + 1, 1 << 21} {
			f := &base{pairs: pairs(has(7, 0, "a"), has(7, 32767, many(32)))}
			v := view.New(f)
			e := chunk.Write(v, 7, off, letters(n))
			if !isSize(off) || !isSize(n) || !isSize(off+n) {
				if e != api.EArg || f.asked != 0 {
					t.Errorf("Write of %d bytes at %d: %v, asked %d times", n, off, e, f.asked)
				}
				touched(t, "wrong", v, nil, nil)
				continue
			}
			err(t, "Write", e, api.OK)
			if f.scans != 0 || f.gets > 2 {
				t.Errorf("Write of %d bytes at %d: %d scans, %d gets", n, off, f.scans, f.gets)
			}
			reads(t, "Write", v, 7, off, letters(n))
		}
	}
}

// TestCutEdges (M1): size.
func TestCutEdges(t *testing.T) {
	for _, size := range edges {
		f := &base{pairs: pairs(has(7, 0, "a"), has(7, 32767, many(32)))}
		v := view.New(f)
		e := chunk.Cut(v, 7, size)
		if !isSize(size) {
			if e != api.EArg || f.asked != 0 {
				t.Errorf("Cut of %d: %v, asked %d times", size, e, f.asked)
			}
			touched(t, "wrong", v, nil, nil)
			continue
		}
		if e != api.OK || f.scans != 1 || f.gets != 0 {
			t.Errorf("Cut of %d: %v, %d scans, %d gets", size, e, f.scans, f.gets)
		}
		is(t, "Reads", v.Reads(), spans(placesOn(7, size/32)))
	}
}

// TestWrongKeeps (M1): a call that answers EArg leaves the Reads, the changes and the marks that there were.
func TestWrongKeeps(t *testing.T) {
	v := see(has(7, 0, "abc"))
	reads(t, "first", v, 7, 0, "a")
	writes(t, "first", v, 7, 32, "def")
	v.Mark()
	for _, c := range []struct{ ino, off, n int }{{0, 0, 1}, {1 << 30, 0, 1}, {7, -1, 1}, {7, 1 << 20, 1}, {7, 1<<20 + 1, 0}, {0, -1, 0}} {
		_, e := chunk.Read(v, c.ino, c.off, c.n)
		err(t, "Read", e, api.EArg)
		err(t, "Write", chunk.Write(v, c.ino, c.off, many(c.n)), api.EArg)
	}
	_, e := chunk.Read(v, 7, 0, -1)
	err(t, "Read", e, api.EArg)
	for _, c := range []struct{ ino, size int }{{0, 0}, {1 << 30, 0}, {7, -1}, {7, 1<<20 + 1}} {
		err(t, "Cut", chunk.Cut(v, c.ino, c.size), api.EArg)
	}
	touched(t, "wrong", v, spans(places(7, 0, 1)), changes(put(7, 1, "def")))
	if m := v.Mark(); m != 1 {
		t.Errorf("Mark: %d; want 1", m)
	}
}

// TestErrors (M1): an error of the view's base is answered, and nothing else; nothing is changed.
func TestErrors(t *testing.T) {
	for _, e := range []api.Errno{api.EArg, api.ENone, api.EIO, api.ECorrupt, api.EState, -1, 99} {
		failing := func(call int) *view.View {
			v := view.New(&base{pairs: pairs(has(7, 0, "abc"), has(7, 2, "ghi")), fails: call, err: e})
			v.Put(at(7, 9), "mine")
			return v
		}
		own := changes(put(7, 9, "mine"))

		v := failing(1)
		s, got := chunk.Read(v, 7, 30, 40)
		if s != "" || got != e {
			t.Errorf("Read: %q, %v; want %v", s, got, e)
		}
		touched(t, "Read", v, spans(places(7, 0, 2)), own)

		v = failing(1)
		err(t, "Cut", chunk.Cut(v, 7, 33), e)
		touched(t, "Cut", v, spans(placesOn(7, 1)), own)

		v = failing(1)
		err(t, "Write, the only part", chunk.Write(v, 7, 1, "x"), e)
		touched(t, "Write, the only part", v, spans(places(7, 0, 0)), own)

		v = failing(1)
		err(t, "Write, the first part", chunk.Write(v, 7, 31, many(40)), e)
		is(t, "Write, the first part: Changes", v.Changes(), own)

		for _, n := range []int{2, 34, 1000} {
			v = failing(2)
			err(t, "Write, the last part", chunk.Write(v, 7, 31, many(n)), e)
			last := (31 + n - 1) / 32
			w := words{asked: spans(places(7, 0, 0), places(7, last, last))}
			is(t, "Write, the last part: Reads", v.Reads(), w.reads())
			is(t, "Write, the last part: Changes", v.Changes(), own)
		}

		v = failing(1)
		err(t, "Write, the last part alone", chunk.Write(v, 7, 0, many(33)), e)
		touched(t, "Write, the last part alone", v, spans(places(7, 1, 1)), own)
	}
}

// TestErrorsNotAsked (M1): what does not hang on the base does not fail with it.
func TestErrorsNotAsked(t *testing.T) {
	f := &base{fails: 1, err: api.EIO}
	v := view.New(f)
	writes(t, "whole chunks", v, 7, 32, many(64))
	writes(t, "parts of what was written", v, 7, 40, "abc")
	if f.asked != 0 {
		t.Errorf("asked %d times", f.asked)
	}
	touched(t, "whole chunks", v, nil, changes(put(7, 1, many(8)+"abc"+many(21)), put(7, 2, many(32))))
	f.fails = 0
	reads(t, "a base that answers again", v, 7, 31, "\x00"+many(8)+"abc")
}

// TestNoView (R2): of a view that is none no call panics.
func TestNoView(t *testing.T) {
	for _, v := range []*view.View{nil, {}} {
		for _, c := range []struct{ ino, off, n int }{{7, 0, 1}, {7, 0, 32}, {7, 31, 40}, {7, 5, 0}, {0, 0, 1}, {7, -1, 3}, {7, 1 << 20, 1}} {
			want := api.EArg
			if c.n == 0 {
				want = api.OK // nothing is asked of it
			}
			s, e := chunk.Read(v, c.ino, c.off, c.n)
			if s != "" || e != want {
				t.Errorf("Read: %q, %v", s, e)
			}
			err(t, "Write", chunk.Write(v, c.ino, c.off, many(c.n)), want)
			err(t, "Cut", chunk.Cut(v, c.ino, c.off), api.EArg)
		}
	}
}

// TestWrongValues (M1, R2): values that are no chunk's: their first 32 bytes count, and a Cut or Write lets be there what should be.
func TestWrongValues(t *testing.T) {
	l := pairs(has(7, 0, many(40)), has(7, 1, ""), has(7, 2, "ab\x00\x00"), has(7, 3, noughts(5)), has(7, 4, letters(32)+many(300)))
	text := many(32) + noughts(32) + "ab" + noughts(62) + letters(32)
	v := see(l...)
	reads(t, "wrong values", v, 7, 0, text+noughts(32))
	for off := range 160 {
		v := see(l...)
		writes(t, "wrong values", v, 7, off, "-")
		want := text[:off] + "-" + text[off+1:]
		first := off / 32 * 32
		is(t, "wrong values: Changes", v.Changes(), changes(put(7, off/32, trimmed([]byte(want[first:first+32])))))
		reads(t, "wrong values", v, 7, 0, want)
	}
	for size := range 161 {
		v := see(l...)
		cuts(t, "wrong values", v, 7, size)
		reads(t, "wrong values", v, 7, 0, text[:size]+noughts(192-size))
		whole, _ := v.Scan(placesOn(7, size/32))
		for _, x := range whole {
			if x.Value != trimmed([]byte(x.Value)) || x.Value == "" || len(x.Value) > 32 {
				t.Errorf("behind Cut of %d there is %q", size, x.Value)
			}
		}
	}
}

// wild is a base that does not keep to spans.
type wild struct{ pairs []api.Pair }

func (w *wild) Get(k api.Key) (string, bool, api.Errno) { return many(1000), true, api.OK }
func (w *wild) Scan(s api.Span) ([]api.Pair, api.Errno) { return slices.Clone(w.pairs), api.OK }

// TestWildBase (R2): whatever a base answers, no call panics.
func TestWildBase(t *testing.T) {
	w := &wild{pairs(has(9, 4, "b"), has(7, 1, "a"), has(7, math.MaxUint32, "c"), api.Pair{}, api.Pair{Key: under(7, 1, 0), Value: many(99)}, has(7, 1, many(50)), has(1, 0, ""))}
	for _, off := range []int{0, 31, 32, 40, 1<<20 - 40} {
		v := view.New(w)
		for _, n := range []int{0, 1, 33, 40} {
			if s, e := chunk.Read(v, 7, off, n); len(s) != n || e != api.OK {
				t.Errorf("Read: %q, %v", s, e)
			}
			writes(t, "wild", v, 7, off, many(n))
		}
		cuts(t, "wild", v, 7, off)
	}
}
