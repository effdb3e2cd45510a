package view_test

import (
	"slices"
	"testing"

	"wainscot/api"
	"wainscot/view"
)

// open is a base that answers the list that it has, with others behind it.
type open struct{ whole []api.Pair }

func (o *open) Get(k api.Key) (string, bool, api.Errno) {
	x := ofPairs(o.whole[:3], k)
	return x.value, x.there, api.OK
}

func (o *open) Scan(s api.Span) ([]api.Pair, api.Errno) { return o.whole[:3], api.OK }

// TestKeepsBase (R1): what the base answers stays as it was, and is not handed on.
func TestKeepsBase(t *testing.T) {
	o := &open{pairs(p(1, "a"), p(3, "c"), p(5, "e"), p(7, "behind"), p(8, "behind"))}
	was := slices.Clone(o.whole)
	v := view.New(o)
	for range 3 {
		l, _ := v.Scan(all())
		is(t, "what the base has", o.whole, was)
		clear(l[:cap(l)])
		is(t, "what the base has, an answer being written over", o.whole, was)
		v.Delete(k(1))
		v.Put(k(3), "z")
		v.Put(k(6), "f")
	}
	is(t, "Changes", v.Changes(), changes(gone(1), put(3, "z"), put(6, "f")))
	scan(t, "Scan", v, all(), pairs(p(3, "z"), p(5, "e"), p(6, "f")))
}

// TestAnswersAreTheCallers (R1): written over, an answer changes nothing within, nor another answer.
func TestAnswersAreTheCallers(t *testing.T) {
	v := view.New(three())
	v.Put(k(2), "b")
	m := v.Mark()
	v.Delete(k(1))
	v.Get(k(9))
	wantReads := spans(of(1, 4), one(9))
	wantPairs := pairs(p(2, "b"), p(3, "c"))
	wantChanges := changes(gone(1), put(2, "b"))
	for range 3 {
		l, _ := v.Scan(of(1, 4))
		other, _ := v.Scan(of(1, 4))
		c, otherC, r, otherR := v.Changes(), v.Changes(), v.Reads(), v.Reads()
		clear(l[:cap(l)])
		clear(c[:cap(c)])
		clear(r[:cap(r)])
		is(t, "another answer of Scan", other, wantPairs)
		is(t, "another answer of Changes", otherC, wantChanges)
		is(t, "another answer of Reads", otherR, wantReads)
	}
	err(t, "Back", v.Back(m), api.OK)
	is(t, "Changes", v.Changes(), changes(put(2, "b")))
	is(t, "Reads", v.Reads(), wantReads)
	scan(t, "Scan", v, all(), pairs(p(1, "a"), p(2, "b"), p(3, "c"), p(5, "e")))
}

// TestAnswersStay (R1): an answer stays as it is, whatever is done behind it.
func TestAnswersStay(t *testing.T) {
	v := view.New(three())
	v.Put(k(2), "b")
	m := v.Mark()
	v.Delete(k(1))
	l, _ := v.Scan(of(1, 4))
	c, r := v.Changes(), v.Reads()
	v.Put(k(2), "z")
	v.Put(k(1), "z")
	v.Scan(all())
	v.Back(m)
	is(t, "an answer of Scan", l, pairs(p(2, "b"), p(3, "c")))
	is(t, "an answer of Changes", c, changes(gone(1), put(2, "b")))
	is(t, "an answer of Reads", r, spans(of(1, 4)))
}

// TestApart (R3): two views of one base have nothing to do with each other, and change nothing of it.
func TestApart(t *testing.T) {
	b := three()
	v, w := view.New(b), view.New(b)
	v.Put(k(1), "v")
	v.Mark()
	w.Delete(k(3))
	v.Get(k(5))
	w.Scan(of(1, 2))
	marked(t, w, 0)
	marked(t, v, 1)
	err(t, "Back", w.Back(1), api.EArg)
	is(t, "Changes", v.Changes(), changes(put(1, "v")))
	is(t, "Changes", w.Changes(), changes(gone(3)))
	is(t, "Reads", v.Reads(), spans(one(5)))
	is(t, "Reads", w.Reads(), spans(of(1, 2)))
	scan(t, "Scan", v, all(), pairs(p(1, "v"), p(3, "c"), p(5, "e")))
	scan(t, "Scan", w, all(), pairs(p(1, "a"), p(5, "e")))
	scan(t, "Scan of the base", b, all(), pairs(p(1, "a"), p(3, "c"), p(5, "e")))
}

// TestSameAgain (R4): the same calls have the same answers, of many keys too.
func TestSameAgain(t *testing.T) {
	u := wide(500)
	for range 10 {
		v := view.New(nil)
		var want []api.Change
		for _, k := range u {
			want = append(want, api.Change{Key: k, Value: "a"})
		}
		for i := range u {
			k := u[i*7%len(u)]
			v.Get(k)
			v.Put(k, "a")
		}
		is(t, "Changes", v.Changes(), want)
		is(t, "Reads", v.Reads(), spans(api.Span{To: next(u[len(u)-1])}))
	}
}
