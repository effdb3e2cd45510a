package view_test

import (
	"math"
	"testing"

	"wainscot/api"
	"wainscot/view"
)

// marked asks for a mark of this number.
func marked(t *testing.T, v *view.View, want int) {
	t.Helper()
	if got := v.Mark(); got != want {
		t.Errorf("Mark: %d; want %d", got, want)
	}
}

// ladder is a view with the marks 0 to 4, each with a change behind it.
func ladder(t *testing.T) *view.View {
	t.Helper()
	v := view.New(three())
	v.Put(k(9), "0")
	marked(t, v, 0)
	v.Put(k(1), "x")
	marked(t, v, 1)
	v.Delete(k(1))
	marked(t, v, 2)
	v.Put(k(1), "y")
	marked(t, v, 3)
	v.Delete(k(9))
	marked(t, v, 4)
	v.Put(k(2), "b")
	return v
}

// rungs is the changes at each of these marks.
func rungs() [][]api.Change {
	return [][]api.Change{
		changes(put(9, "0")),
		changes(put(1, "x"), put(9, "0")),
		changes(gone(1), put(9, "0")),
		changes(put(1, "y"), put(9, "0")),
		changes(put(1, "y"), gone(9)),
	}
}

// TestBackToEach (L3): the changes are what the mark remembers; the marks behind it are no more, and it itself and those ahead of it are there.
func TestBackToEach(t *testing.T) {
	for m, want := range rungs() {
		v := ladder(t)
		err(t, "Back", v.Back(m), api.OK)
		is(t, "Changes", v.Changes(), want)
		for no := m + 1; no <= 6; no++ {
			err(t, "Back to one that is no more", v.Back(no), api.EArg)
		}
		is(t, "Changes", v.Changes(), want)
		err(t, "Back again", v.Back(m), api.OK)
		is(t, "Changes", v.Changes(), want)
		marked(t, v, m+1)
		for ahead := m; ahead >= 0; ahead-- {
			err(t, "Back to one ahead", v.Back(ahead), api.OK)
			is(t, "Changes", v.Changes(), rungs()[ahead])
		}
	}
}

// TestBackTwice (L3): to each mark, then to each that is left.
func TestBackTwice(t *testing.T) {
	for first := range rungs() {
		for second := range rungs() {
			v := ladder(t)
			v.Back(first)
			v.Put(k(4), "d")
			v.Delete(k(1))
			want, e := rungs()[min(first, second)], api.OK
			if second > first {
				e = api.EArg
				want = v.Changes()
			}
			err(t, "Back", v.Back(second), e)
			is(t, "Changes", v.Changes(), want)
		}
	}
}

// TestBackScan (L3): what is seen behind Back is what was seen at the mark.
func TestBackScan(t *testing.T) {
	v := view.New(three())
	v.Put(k(2), "b")
	m := v.Mark()
	want, _ := v.Scan(all())
	for range 3 {
		v.Put(k(2), "z")
		v.Delete(k(2))
		v.Delete(k(3))
		v.Put(k(1), "y")
		v.Put(k(8), "h")
		v.Mark()
		v.Put(k(3), "w")
		v.Delete(k(8))
		err(t, "Back", v.Back(m), api.OK)
		scan(t, "Scan", v, all(), want)
		has(t, v, k(1), "a")
		has(t, v, k(2), "b")
		has(t, v, k(3), "c")
		hasNot(t, v, k(8))
		is(t, "Changes", v.Changes(), changes(put(2, "b")))
	}
}

// TestBackWrong (L3): marks that there are not; nothing is changed then.
func TestBackWrong(t *testing.T) {
	wrong := []int{-1, -2, 5, 6, 1 << 32, 1<<32 + 4, 256, math.MaxInt, math.MinInt}
	v := ladder(t)
	was := v.Changes()
	for _, m := range wrong {
		err(t, "Back", v.Back(m), api.EArg)
		is(t, "Changes", v.Changes(), was)
	}
	marked(t, v, 5)
	err(t, "Back", v.Back(4), api.OK)
	is(t, "Changes", v.Changes(), rungs()[4])

	v = view.New(nil)
	v.Put(k(1), "a")
	for _, m := range append(wrong, 0, 1) {
		err(t, "Back without a mark", v.Back(m), api.EArg)
	}
	is(t, "Changes", v.Changes(), changes(put(1, "a")))
	marked(t, v, 0)
}

// TestMarksAlike (L3): marks with nothing between them are marks each.
func TestMarksAlike(t *testing.T) {
	v := view.New(three())
	for m := range 4 {
		marked(t, v, m)
	}
	v.Put(k(2), "b")
	err(t, "Back", v.Back(2), api.OK)
	is(t, "Changes", v.Changes(), nil)
	err(t, "Back", v.Back(3), api.EArg)
	v.Put(k(2), "b")
	marked(t, v, 3)
	v.Delete(k(2))
	err(t, "Back", v.Back(3), api.OK)
	is(t, "Changes", v.Changes(), changes(put(2, "b")))
	err(t, "Back", v.Back(0), api.OK)
	is(t, "Changes", v.Changes(), nil)
}

// TestMarkAnew (L3): a mark that takes the number of one that is no more remembers what is there now.
func TestMarkAnew(t *testing.T) {
	v := view.New(nil)
	marked(t, v, 0)
	v.Put(k(1), "a")
	marked(t, v, 1)
	v.Put(k(1), "b")
	v.Back(0)
	v.Put(k(1), "c")
	v.Put(k(2), "d")
	marked(t, v, 1)
	v.Delete(k(1))
	err(t, "Back", v.Back(1), api.OK)
	is(t, "Changes", v.Changes(), changes(put(1, "c"), put(2, "d")))
	err(t, "Back", v.Back(0), api.OK)
	is(t, "Changes", v.Changes(), nil)
}

// TestReadsStay (L3): what was read behind a mark stays read; a key whose change is taken back is read when it is got.
func TestReadsStay(t *testing.T) {
	v := view.New(three())
	v.Get(k(1))
	m := v.Mark()
	v.Put(k(2), "b")
	v.Delete(k(3))
	v.Get(k(2))
	v.Get(k(3))
	v.Get(k(4))
	v.Scan(of(6, 8))
	is(t, "Reads", v.Reads(), spans(one(1), one(4), of(6, 8)))
	err(t, "Back", v.Back(m), api.OK)
	is(t, "Reads behind Back", v.Reads(), spans(one(1), one(4), of(6, 8)))
	v.Get(k(2))
	is(t, "Reads", v.Reads(), spans(one(1), one(2), one(4), of(6, 8)))
	v.Get(k(3))
	is(t, "Reads", v.Reads(), spans(one(1), one(2), one(3), one(4), of(6, 8)))
	err(t, "Back", v.Back(m+1), api.EArg)
	is(t, "Reads", v.Reads(), spans(one(1), one(2), one(3), one(4), of(6, 8)))
}

// TestManyMarks (L3): many marks, with many changes at each.
func TestManyMarks(t *testing.T) {
	const n = 20000
	at := func(i int) api.Key { return api.Key{byte(i >> 8), byte(i)} }
	v := view.New(nil)
	for i := range n {
		marked(t, v, i)
		v.Put(at(i), "a")
		v.Put(at(i/2), "b")
	}
	err(t, "Back", v.Back(n/2), api.OK)
	c := v.Changes()
	if len(c) != n/2 {
		t.Fatalf("%d changes", len(c))
	}
	for i, x := range c {
		want := api.Change{Key: at(i), Value: "a"}
		if i < n/4 {
			want.Value = "b"
		}
		if x != want {
			t.Fatalf("%+v; want %+v", x, want)
		}
	}
	err(t, "Back", v.Back(0), api.OK)
	is(t, "Changes", v.Changes(), nil)
}
