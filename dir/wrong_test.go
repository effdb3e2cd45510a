package dir_test

import (
	"math"
	"slices"
	"testing"

	"wainscot/api"
	"wainscot/dir"
	"wainscot/view"
)

// base is a base of pairs that counts what it is asked, and, if err is one, answers that, with more beside it.
type base struct {
	pairs       []api.Pair
	err         api.Errno
	gets, scans int
}

func (b *base) Get(k api.Key) (string, bool, api.Errno) {
	b.gets++
	if b.err != api.OK {
		return num(5), true, b.err
	}
	return view.NewPlain(b.pairs).Get(k)
}

func (b *base) Scan(s api.Span) ([]api.Pair, api.Errno) {
	b.scans++
	if b.err != api.OK {
		return pairs(has(7, "more", 5)), b.err
	}
	return view.NewPlain(b.pairs).Scan(s)
}

// asked asks for just so many gets and scans.
func (b *base) asked(t *testing.T, what string, gets, scans int) {
	t.Helper()
	if b.gets != gets || b.scans != scans {
		t.Errorf("%s: %d gets, %d scans; want %d, %d", what, b.gets, b.scans, gets, scans)
	}
}

// numbers is of inodes, and others that are none.
var numbers = []int{
	math.MinInt, -1 << 32, -1<<32 + 7, -1 << 30, -1, 0,
	1, 2, 7, 255, 256, 1<<24 + 3, 1<<30 - 2, 1<<30 - 1,
	1 << 30, 1<<30 + 1, 1<<30 + 7, 1<<31 - 1, 1 << 31, 1 << 32, 1<<32 + 7, math.MaxInt,
}

// refusesAll asks each call but Put for EArg, and that nothing came of it.
func refusesAll(t *testing.T, what string, d int, name string) {
	t.Helper()
	b := &base{pairs: pairs(has(7, "a", 2))}
	v := view.New(b)
	finds(t, what, v, d, name, 0, false, api.EArg)
	err(t, what+": Drop", dir.Drop(v, d, name), api.EArg)
	err(t, what+": Put", dir.Put(v, d, name, 2), api.EArg)
	touched(t, what, v, nil, nil)
	b.asked(t, what, 0, 0)
}

// TestNumbers (N1, N2): of directories and of inodes they are from 1 to 2^30 - 1.
func TestNumbers(t *testing.T) {
	for _, d := range numbers {
		if !isNumber(d) {
			refusesAll(t, "no number", d, "a")
			refusesAll(t, "no number and no name", d, "")
			b := &base{}
			v := view.New(b)
			refuses(t, "no number", v, d, api.EArg)
			empties(t, "no number", v, d, false, api.EArg)
			touched(t, "no number", v, nil, nil)
			b.asked(t, "no number", 0, 0)
		}
		for _, ino := range numbers {
			b := &base{}
			v := view.New(b)
			if !isNumber(d) || !isNumber(ino) {
				err(t, "Put", dir.Put(v, d, "a", ino), api.EArg)
				touched(t, "Put", v, nil, nil)
				b.asked(t, "Put", 0, 0)
				continue
			}
			puts(t, "numbers", v, d, "a", ino)
			found(t, "numbers", v, d, "a", ino)
			b.asked(t, "numbers", 0, 0)
			lists(t, "numbers", v, d, "a")
			touched(t, "numbers", v, spans(all(d)), changes(put(d, "a", ino)))
			drops(t, "numbers", v, d, "a")
			lists(t, "numbers", v, d)
		}
	}
}

// TestNames (N1): texts that are no names, of directories that are there.
func TestNames(t *testing.T) {
	for _, s := range wrongNames {
		for _, d := range []int{1, 7, 1<<30 - 1} {
			refusesAll(t, "no name", d, s)
		}
		err(t, "no name and no number", dir.Put(view.New(nil), 7, s, 0), api.EArg)
	}
	for _, s := range rightNames {
		if !isName(s) {
			t.Errorf("%q is no name", s)
		}
	}
}

// TestNamesOfBytes (N1): all texts of one byte and of two, against the words.
func TestNamesOfBytes(t *testing.T) {
	ask := func(s string) {
		want := api.EArg
		if isName(s) {
			want = api.OK
		}
		v := view.New(nil)
		err(t, "Put", dir.Put(v, 7, s, 2), want)
		finds(t, "bytes", v, 7, s, map[bool]int{true: 2}[isName(s)], isName(s), want)
		err(t, "Drop", dir.Drop(v, 7, s), want)
	}
	for a := range 256 {
		ask(string([]byte{byte(a)}))
		for b := range 256 {
			ask(string([]byte{byte(a), byte(b)}))
		}
	}
}

// TestAsked (N1, N2): of its base each call asks what it must, once.
func TestAsked(t *testing.T) {
	for _, c := range []struct {
		what        string
		do          func(v *view.View)
		gets, scans int
	}{
		{"Find", func(v *view.View) { found(t, "asked", v, 7, "a", 2) }, 1, 0},
		{"Find of none", func(v *view.View) { lacks(t, "asked", v, 7, "b") }, 1, 0},
		{"Put", func(v *view.View) { puts(t, "asked", v, 7, "a", 3) }, 0, 0},
		{"Drop", func(v *view.View) { drops(t, "asked", v, 7, "a") }, 0, 0},
		{"List", func(v *view.View) { dir.List(v, 7) }, 0, 1},
		{"Empty", func(v *view.View) { empties(t, "asked", v, 7, false, api.OK) }, 0, 1},
	} {
		b := &base{pairs: pairs(has(7, "a", 2))}
		c.do(view.New(b))
		b.asked(t, c.what, c.gets, c.scans)
	}
}

// TestWrongKeeps (N1, N2): a call that answers EArg leaves the Reads, the changes and the marks that there were.
func TestWrongKeeps(t *testing.T) {
	v := see(has(7, "a", 2))
	found(t, "first", v, 7, "a", 2)
	puts(t, "first", v, 7, "b", 3)
	drops(t, "first", v, 8, "c")
	v.Mark()
	for _, c := range []struct {
		dir  int
		name string
		ino  int
	}{{0, "a", 2}, {1 << 30, "a", 2}, {7, "", 2}, {7, "..", 2}, {7, many(19), 2}, {0, "", 0}} {
		finds(t, "wrong", v, c.dir, c.name, 0, false, api.EArg)
		err(t, "Put", dir.Put(v, c.dir, c.name, c.ino), api.EArg)
		err(t, "Drop", dir.Drop(v, c.dir, c.name), api.EArg)
	}
	for _, n := range []int{-1, 0, 1 << 30} {
		err(t, "Put", dir.Put(v, 7, "a", n), api.EArg)
		refuses(t, "wrong", v, n, api.EArg)
		empties(t, "wrong", v, n, false, api.EArg)
	}
	touched(t, "wrong", v, spans(alone(7, "a")), changes(put(7, "b", 3), gone(8, "c")))
	if m := v.Mark(); m != 1 {
		t.Errorf("Mark: %d; want 1", m)
	}
}

// TestErrors (N1, N2): an error of the view's base is answered, and nothing else; what was asked for is read, and nothing is changed.
func TestErrors(t *testing.T) {
	for _, e := range []api.Errno{api.EArg, api.ENone, api.EIO, api.ECorrupt, api.EState, -1, 99} {
		failing := func() *view.View {
			v := view.New(&base{pairs: pairs(has(7, "a", 2)), err: e})
			puts(t, "own", v, 7, "mine", 9)
			return v
		}
		own := changes(put(7, "mine", 9))

		v := failing()
		finds(t, "error", v, 7, "a", 0, false, e)
		finds(t, "error", v, 7, "none", 0, false, e)
		touched(t, "Find", v, spans(alone(7, "a"), alone(7, "none")), own)

		v = failing()
		refuses(t, "error", v, 7, e)
		touched(t, "List", v, spans(all(7)), own)

		v = failing()
		empties(t, "error", v, 7, false, e)
		empties(t, "error", v, 8, false, e)
		touched(t, "Empty", v, spans(all(7), all(8)), own)

		v = failing()
		found(t, "not asked", v, 7, "mine", 9)
		puts(t, "not asked", v, 7, "a", 3)
		drops(t, "not asked", v, 7, "mine")
		found(t, "not asked", v, 7, "a", 3)
		lacks(t, "not asked", v, 7, "mine")
		touched(t, "not asked", v, nil, changes(put(7, "a", 3), gone(7, "mine")))

		finds(t, "wrong ahead of the error", failing(), 0, "a", 0, false, api.EArg)
		refuses(t, "wrong ahead of the error", failing(), 0, api.EArg)
	}
}

// TestErrorsEnd (N1, N2): a base that answers again is asked again.
func TestErrorsEnd(t *testing.T) {
	b := &base{pairs: pairs(has(7, "a", 2)), err: api.EIO}
	v := view.New(b)
	finds(t, "down", v, 7, "a", 0, false, api.EIO)
	refuses(t, "down", v, 7, api.EIO)
	b.err = api.OK
	found(t, "up", v, 7, "a", 2)
	lists(t, "up", v, 7, "a")
}

// TestNoView (R2): of a view that is none no call panics.
func TestNoView(t *testing.T) {
	for _, v := range []*view.View{nil, {}} {
		for _, d := range []int{7, 0} {
			for _, s := range texts("a", "", "..") {
				finds(t, "no view", v, d, s, 0, false, api.EArg)
				err(t, "Put", dir.Put(v, d, s, 2), api.EArg)
				err(t, "Put", dir.Put(v, d, s, 0), api.EArg)
				err(t, "Drop", dir.Drop(v, d, s), api.EArg)
			}
			refuses(t, "no view", v, d, api.EArg)
			empties(t, "no view", v, d, false, api.EArg)
		}
	}
}

// wild is a base that does not keep to spans.
type wild struct{ pairs []api.Pair }

func (w *wild) Get(k api.Key) (string, bool, api.Errno) { return many(1000), true, api.OK }
func (w *wild) Scan(s api.Span) ([]api.Pair, api.Errno) { return slices.Clone(w.pairs), api.OK }

// TestWildBase (R2): whatever a base answers, no call panics; a key of another kind is no entry's.
func TestWildBase(t *testing.T) {
	for _, k := range []api.Key{{}, under(7, 1, ""), under(7, 3, ""), under(0, 2, "a"), under(7, 9, "a")} {
		v := view.New(&wild{pairs(has(7, "b", 3), api.Pair{Key: k, Value: num(2)}, has(7, "a", 2))})
		finds(t, "wild", v, 7, "a", 0, false, api.ECorrupt)
		refuses(t, "wild", v, 7, api.ECorrupt)
		empties(t, "wild", v, 7, false, api.OK)
		puts(t, "wild", v, 7, "a", 2)
		drops(t, "wild", v, 7, "b")
	}
	v := view.New(&wild{pairs(has(7, "b", 3), has(7, "a", 2), has(7, "b", 4))})
	lists(t, "in no order", v, 7, "a", "b")
}
