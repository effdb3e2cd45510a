package view_test

import (
	"testing"

	"wainscot/api"
	"wainscot/key"
	"wainscot/view"
)

// three is a base of the keys 1, 3 and 5.
func three() *view.Plain { return view.NewPlain(pairs(p(1, "a"), p(3, "c"), p(5, "e"))) }

// TestExample (L2, L3): the chapter's example.
func TestExample(t *testing.T) {
	v := view.New(view.NewPlain(pairs(p(1, "a"))))
	m := v.Mark()
	err(t, "Put", v.Put(k(2), "b"), api.OK)
	err(t, "Delete", v.Delete(k(1)), api.OK)
	scan(t, "Scan", v, all(), pairs(p(2, "b")))
	is(t, "Reads", v.Reads(), spans(all()))
	err(t, "Back", v.Back(m), api.OK)
	scan(t, "Scan behind Back", v, all(), pairs(p(1, "a")))
}

// TestNew (L2): at first a view is its base's map, without changes, and nothing is read.
func TestNew(t *testing.T) {
	v := view.New(three())
	is(t, "Changes", v.Changes(), nil)
	is(t, "Reads", v.Reads(), nil)
	has(t, v, k(1), "a")
	has(t, v, k(5), "e")
	hasNot(t, v, k(2))
	scan(t, "Scan", v, all(), pairs(p(1, "a"), p(3, "c"), p(5, "e")))
	is(t, "Changes", v.Changes(), nil)
}

// TestNil (L2): a view of nil is one of a base without pairs.
func TestNil(t *testing.T) {
	v := view.New(nil)
	hasNot(t, v, k(1))
	hasNot(t, v, api.Key{})
	scan(t, "Scan", v, of(4, 6), nil)
	is(t, "Reads", v.Reads(), spans(key.One(api.Key{}), one(1), of(4, 6)))
	scan(t, "Scan", v, all(), nil)
	is(t, "Reads", v.Reads(), spans(all()))
	m := v.Mark()
	err(t, "Delete", v.Delete(k(1)), api.OK)
	err(t, "Put", v.Put(k(2), "b"), api.OK)
	has(t, v, k(2), "b")
	scan(t, "Scan", v, all(), pairs(p(2, "b")))
	is(t, "Changes", v.Changes(), changes(gone(1), put(2, "b")))
	err(t, "Back", v.Back(m), api.OK)
	scan(t, "Scan", v, all(), nil)
	is(t, "Changes", v.Changes(), nil)
}

// TestPut (L2): values of 1 to 40 bytes, whatever they are; with any other one nothing is changed.
func TestPut(t *testing.T) {
	for _, c := range []struct {
		value string
		want  api.Errno
	}{
		{"", api.EArg},
		{"a", api.OK},
		{"\x00", api.OK},
		{"\xff\x00/", api.OK},
		{many(39), api.OK},
		{many(40), api.OK},
		{many(41), api.EArg},
		{many(42), api.EArg},
		{many(40) + "\x00", api.EArg},
		{many(296), api.EArg}, // 40 and 256
		{many(65536 + 40), api.EArg},
		{"éééééééééééééééééééé", api.OK}, // 20 characters of two bytes
		{"éééééééééééééééééééé.", api.EArg},
	} {
		for _, own := range []api.Key{k(1), k(2), {}, high(0)} {
			v := view.New(three())
			err(t, "Put", v.Put(own, c.value), c.want)
			if c.want != api.OK {
				is(t, "Changes", v.Changes(), nil)
				scan(t, "Scan", v, all(), pairs(p(1, "a"), p(3, "c"), p(5, "e")))
				continue
			}
			is(t, "Changes", v.Changes(), changes(api.Change{Key: own, Value: c.value}))
			has(t, v, own, c.value)
			is(t, "Reads", v.Reads(), nil)
			scan(t, "Scan", v, key.One(own), pairs(api.Pair{Key: own, Value: c.value}))
		}
	}
}

// TestPutWrong (L2): a Put that is refused leaves the change that was there.
func TestPutWrong(t *testing.T) {
	for _, wrong := range []string{"", many(41)} {
		v := view.New(three())
		v.Put(k(2), "b")
		v.Delete(k(3))
		m := v.Mark()
		for _, b := range []byte{1, 2, 3, 4} {
			err(t, "Put", v.Put(k(b), wrong), api.EArg)
		}
		is(t, "Changes", v.Changes(), changes(put(2, "b"), gone(3)))
		is(t, "Reads", v.Reads(), nil)
		scan(t, "Scan", v, all(), pairs(p(1, "a"), p(2, "b"), p(5, "e")))
		err(t, "Back", v.Back(m), api.OK)
		is(t, "Changes", v.Changes(), changes(put(2, "b"), gone(3)))
	}
}

// TestLastCounts (L2): of what was put and deleted under one key the last one, be it the base's or not.
func TestLastCounts(t *testing.T) {
	for _, b := range []byte{2, 3} {
		for _, c := range []struct {
			what string
			l    []api.Change
		}{
			{"put", changes(put(b, "x"))},
			{"deleted", changes(gone(b))},
			{"put twice", changes(put(b, "x"), put(b, "y"))},
			{"put the same twice", changes(put(b, "x"), put(b, "x"))},
			{"put what the base has", changes(put(b, "c"))},
			{"put otherwise, and what the base has", changes(put(b, "x"), put(b, "c"))},
			{"put, deleted", changes(put(b, "x"), gone(b))},
			{"deleted, put", changes(gone(b), put(b, "x"))},
			{"deleted, put what the base has", changes(gone(b), put(b, "c"))},
			{"deleted twice", changes(gone(b), gone(b))},
			{"put, deleted, put, deleted", changes(put(b, "x"), gone(b), put(b, "y"), gone(b))},
			{"deleted, put, deleted, put", changes(gone(b), put(b, "x"), gone(b), put(b, "y"))},
		} {
			v := view.New(three())
			for _, x := range c.l {
				if x.Gone {
					err(t, c.what, v.Delete(x.Key), api.OK)
				} else {
					err(t, c.what, v.Put(x.Key, x.Value), api.OK)
				}
			}
			at := c.l[len(c.l)-1]
			is(t, c.what, v.Changes(), changes(at))
			var want []api.Pair
			if at.Gone {
				hasNot(t, v, at.Key)
			} else {
				has(t, v, at.Key, at.Value)
				want = pairs(api.Pair{Key: at.Key, Value: at.Value})
			}
			is(t, c.what+": Reads", v.Reads(), nil)
			scan(t, c.what, v, one(b), want)
			has(t, v, k(1), "a")
			has(t, v, k(5), "e")
		}
	}
}

// TestChangesRise (L2): changes are told by keys, whatever the order in which they were made.
func TestChangesRise(t *testing.T) {
	want := changes(api.Change{Value: "0"}, gone(1), put(2, "b"), gone(3), api.Change{Key: api.Key{0: 3, 23: 1}, Value: "d"}, put(4, "x"), api.Change{Key: high(0), Gone: true})
	for turn := range want {
		v := view.New(three())
		for i := range want {
			if c := want[(i*3+turn)%len(want)]; c.Gone {
				v.Delete(c.Key)
			} else {
				v.Put(c.Key, "first")
				v.Put(c.Key, c.Value)
			}
		}
		is(t, "Changes", v.Changes(), want)
		scan(t, "Scan", v, all(), pairs(api.Pair{Value: "0"}, p(2, "b"), api.Pair{Key: api.Key{0: 3, 23: 1}, Value: "d"}, p(4, "x"), p(5, "e")))
	}
}

// TestScan (L2): changes at the ends of spans, ahead of them and behind.
func TestScan(t *testing.T) {
	v := view.New(view.NewPlain(pairs(p(2, "b"), p(4, "d"), p(6, "f"), p(8, "h"))))
	v.Put(k(1), "A")
	v.Put(k(3), "C")
	v.Delete(k(4))
	v.Put(k(6), "F")
	v.Delete(k(7))
	v.Put(k(9), "I")
	v.Delete(k(8))
	whole := pairs(p(1, "A"), p(2, "b"), p(3, "C"), p(6, "F"), p(9, "I"))
	for _, c := range []struct {
		what string
		s    api.Span
		want []api.Pair
	}{
		{"all", all(), whole},
		{"from a key that was put", of(3, 9), whole[2:4]},
		{"from behind a key that was put", api.Span{From: one(3).To, To: k(9)}, whole[3:4]},
		{"up to a key that was put", of(1, 3), whole[:2]},
		{"up to behind a key that was put", api.Span{From: k(1), To: one(3).To}, whole[:3]},
		{"from a key that was deleted", of(4, 7), whole[3:4]},
		{"up to a key that was deleted", of(3, 4), whole[2:3]},
		{"up to behind a key that was deleted", api.Span{From: k(3), To: one(4).To}, whole[2:3]},
		{"deleted ones alone", of(7, 9), nil},
		{"one that was put over", one(6), whole[3:4]},
		{"one that was deleted", one(8), nil},
		{"one that was deleted, but never there", one(7), nil},
		{"one that was put", one(1), whole[:1]},
		{"one of the base's", one(2), whole[1:2]},
		{"from a key that was put on", from(9), whole[4:]},
		{"from behind it on", from(10), nil},
		{"from a key that was deleted on", from(8), whole[4:]},
		{"ahead of all", of(0, 1), nil},
		{"empty", of(3, 3), nil},
		{"To below From", of(6, 1), nil},
		{"noughts", api.Span{}, nil},
		{"End, with a To below", api.Span{From: k(6), To: k(2), End: true}, whole[3:]},
	} {
		scan(t, "Scan: "+c.what, v, c.s, c.want)
	}
	is(t, "Changes", v.Changes(), changes(put(1, "A"), put(3, "C"), gone(4), put(6, "F"), gone(7), gone(8), put(9, "I")))
}

// TestReads (L2): the set of what was scanned, and of the keys that were got while no change of them was there.
func TestReads(t *testing.T) {
	v := view.New(three())
	step := func(what string, want ...api.Span) {
		t.Helper()
		is(t, what, v.Reads(), want)
	}
	v.Get(k(3))
	step("got", one(3))
	v.Get(k(3))
	step("got again", one(3))
	v.Get(k(2))
	step("got, though there is none", one(2), one(3))
	v.Put(k(4), "d")
	v.Get(k(4))
	step("got what was put", one(2), one(3))
	v.Delete(k(5))
	v.Get(k(5))
	step("got what was deleted", one(2), one(3))
	v.Put(k(3), "x")
	v.Delete(k(2))
	v.Get(k(3))
	step("changed what was got", one(2), one(3))
	v.Put(k(6), "")
	v.Get(k(6))
	step("got what was put wrong", one(2), one(3), one(6))
	v.Scan(of(4, 4))
	v.Scan(of(9, 2))
	v.Scan(api.Span{})
	step("scanned empty ones", one(2), one(3), one(6))
	v.Scan(of(4, 5))
	step("scanned what was changed", one(2), one(3), of(4, 5), one(6))
	v.Scan(of(5, 6))
	step("scanned what is beside", one(2), one(3), api.Span{From: k(4), To: one(6).To})
	v.Scan(api.Span{From: k(9), To: k(1), End: true})
	step("scanned to the end", one(2), one(3), api.Span{From: k(4), To: one(6).To}, from(9))
	v.Get(high(0))
	v.Get(k(200))
	step("got in what was scanned", one(2), one(3), api.Span{From: k(4), To: one(6).To}, from(9))
	v.Scan(from(2))
	step("scanned around all", from(2))
	v.Scan(all())
	step("scanned all", all())
}

// TestReadsMeet (L2): keys beside one another, the least and the greatest.
func TestReadsMeet(t *testing.T) {
	v := view.New(nil)
	v.Get(high(0))
	is(t, "Reads", v.Reads(), spans(api.Span{From: high(0), End: true}))
	v.Get(high(1))
	v.Get(last(5))
	v.Get(last(3))
	v.Get(api.Key{})
	is(t, "Reads", v.Reads(), spans(api.Span{To: last(1)}, api.Span{From: last(3), To: last(4)}, api.Span{From: last(5), To: last(6)}, api.Span{From: high(1), End: true}))
	v.Get(last(4))
	is(t, "Reads", v.Reads(), spans(api.Span{To: last(1)}, api.Span{From: last(3), To: last(6)}, api.Span{From: high(1), End: true}))
}

// TestNotRead (L2): what is put, deleted, marked and told is not read.
func TestNotRead(t *testing.T) {
	v := view.New(three())
	m := v.Mark()
	v.Put(k(1), "x")
	v.Delete(k(3))
	v.Delete(k(4))
	v.Changes()
	v.Reads()
	v.Back(m)
	is(t, "Reads", v.Reads(), nil)
}

// failing is a base that answers an error, and more beside it.
type failing struct {
	err   api.Errno
	asked int
}

func (f *failing) Get(k api.Key) (string, bool, api.Errno) {
	f.asked++
	return "x", true, f.err
}

func (f *failing) Scan(s api.Span) ([]api.Pair, api.Errno) {
	f.asked++
	return pairs(p(1, "x"), p(2, "y")), f.err
}

// TestErrors (L2): an error of the base is answered, and nothing else; what was asked is read all the same.
func TestErrors(t *testing.T) {
	for _, e := range []api.Errno{api.EArg, api.ENone, api.EIO, api.ECorrupt, api.EState, -1, 99} {
		v := view.New(&failing{err: e})
		if value, is, got := v.Get(k(1)); value != "" || is || got != e {
			t.Errorf("Get: %q, %v, %v; want %v", value, is, got, e)
		}
		is(t, "Reads", v.Reads(), spans(one(1)))
		l, got := v.Scan(of(2, 4))
		err(t, "Scan", got, e)
		is(t, "Scan", l, nil)
		is(t, "Reads", v.Reads(), spans(one(1), of(2, 4)))

		err(t, "Put", v.Put(k(3), "c"), api.OK)
		err(t, "Delete", v.Delete(k(2)), api.OK)
		is(t, "Changes", v.Changes(), changes(gone(2), put(3, "c")))
		for _, s := range spans(of(2, 4), one(3), all(), of(5, 5)) {
			l, got = v.Scan(s)
			err(t, "Scan of what is changed", got, e)
			is(t, "Scan of what is changed", l, nil)
		}
		is(t, "Reads", v.Reads(), spans(all()))
		is(t, "Changes", v.Changes(), changes(gone(2), put(3, "c")))
	}
}

// TestErrorsNotAsked (L2): the base is not asked for a key that was changed; behind Back it is.
func TestErrorsNotAsked(t *testing.T) {
	f := &failing{err: api.EIO}
	v := view.New(f)
	m := v.Mark()
	v.Put(k(1), "a")
	v.Delete(k(2))
	has(t, v, k(1), "a")
	hasNot(t, v, k(2))
	if f.asked != 0 {
		t.Errorf("asked %d times", f.asked)
	}
	is(t, "Reads", v.Reads(), nil)
	v.Back(m)
	_, _, e := v.Get(k(1))
	err(t, "Get", e, api.EIO)
	_, _, e = v.Get(k(2))
	err(t, "Get", e, api.EIO)
	is(t, "Reads", v.Reads(), spans(one(1), one(2)))
}

// TestErrorsPass (L2): a base that answers again is seen again.
func TestErrorsPass(t *testing.T) {
	f := &failing{err: api.EIO}
	v := view.New(f)
	v.Scan(all())
	f.err = api.OK
	has(t, v, k(1), "x")
	v.Delete(k(1))
	scan(t, "Scan", v, all(), pairs(p(2, "y")))
}

// talking is a base that tells a value beside a false.
type talking struct{ failing }

func (*talking) Get(k api.Key) (string, bool, api.Errno) { return "x", false, api.OK }

// TestFalse (R5): beside a false there is nothing else.
func TestFalse(t *testing.T) { hasNot(t, view.New(&talking{}), k(1)) }

// TestViewOfView (L2): a view is a base: another one sees its changes, and has its own for itself.
func TestViewOfView(t *testing.T) {
	below := view.New(three())
	below.Put(k(2), "b")
	below.Delete(k(1))
	v := view.New(below)
	scan(t, "Scan", v, all(), pairs(p(2, "b"), p(3, "c"), p(5, "e")))
	is(t, "Changes", v.Changes(), nil)
	v.Delete(k(2))
	v.Put(k(1), "z")
	scan(t, "Scan", v, all(), pairs(p(1, "z"), p(3, "c"), p(5, "e")))
	is(t, "Changes", v.Changes(), changes(put(1, "z"), gone(2)))
	scan(t, "Scan below", below, all(), pairs(p(2, "b"), p(3, "c"), p(5, "e")))
	is(t, "Changes below", below.Changes(), changes(gone(1), put(2, "b")))
}
