package view_test

import (
	"slices"
	"testing"

	"wainscot/api"
	"wainscot/view"
)

// TestNewPlain (L1): lists written out, and the maps that they are taken for.
func TestNewPlain(t *testing.T) {
	for _, c := range []struct {
		what    string
		l, want []api.Pair
	}{
		{"nil", nil, nil},
		{"no pairs", pairs(), nil},
		{"one", pairs(p(1, "a")), pairs(p(1, "a"))},
		{"in order", pairs(p(1, "a"), p(3, "c")), pairs(p(1, "a"), p(3, "c"))},
		{"out of order", pairs(p(3, "c"), p(1, "a"), p(2, "b")), pairs(p(1, "a"), p(2, "b"), p(3, "c"))},
		{"one key twice", pairs(p(1, "a"), p(1, "b")), pairs(p(1, "b"))},
		{"one key twice, the same", pairs(p(1, "a"), p(1, "a")), pairs(p(1, "a"))},
		{"one key thrice, out of order", pairs(p(2, "a"), p(1, "x"), p(2, "c"), p(3, "y"), p(2, "b")), pairs(p(1, "x"), p(2, "b"), p(3, "y"))},
		{"a value without a byte", pairs(p(1, ""), p(2, "b")), pairs(p(1, ""), p(2, "b"))},
		{"a value without a byte at last", pairs(p(1, "a"), p(1, "")), pairs(p(1, ""))},
		{"values of more bytes than a view takes", pairs(p(2, many(41)), p(1, many(1000))), pairs(p(1, many(1000)), p(2, many(41)))},
		{"the least key and the greatest", pairs(api.Pair{Key: high(0), Value: "z"}, api.Pair{Value: "a"}), pairs(api.Pair{Value: "a"}, api.Pair{Key: high(0), Value: "z"})},
		{"keys that differ at last", pairs(api.Pair{Key: last(2), Value: "b"}, api.Pair{Key: last(1), Value: "a"}), pairs(api.Pair{Key: last(1), Value: "a"}, api.Pair{Key: last(2), Value: "b"})},
	} {
		b := view.NewPlain(c.l)
		if b.Len() != len(c.want) {
			t.Errorf("%s: Len: %d; want %d", c.what, b.Len(), len(c.want))
		}
		scan(t, c.what, b, all(), c.want)
		for _, x := range c.want {
			has(t, b, x.Key, x.Value)
		}
		hasNot(t, b, k(9))
		hasNot(t, b, high(1))
		hasNot(t, b, api.Key{0: 1, 23: 1})
	}
}

// TestPlainScan (L1): spans that begin and end at keys, and beside them.
func TestPlainScan(t *testing.T) {
	b := view.NewPlain(pairs(p(7, "c"), p(3, "a"), p(5, "b")))
	whole := pairs(p(3, "a"), p(5, "b"), p(7, "c"))
	for _, c := range []struct {
		what string
		s    api.Span
		want []api.Pair
	}{
		{"all", all(), whole},
		{"from the first key on", from(3), whole},
		{"from the first key to behind the last", of(3, 8), whole},
		{"up to the first key", of(0, 3), nil},
		{"up to behind the first key", of(0, 4), whole[:1]},
		{"up to the last key", of(0, 7), whole[:2]},
		{"from the last key on", from(7), whole[2:]},
		{"from behind the last key on", from(8), nil},
		{"behind the last key", of(8, 9), nil},
		{"ahead of the first key", of(1, 2), nil},
		{"between two keys", of(4, 5), nil},
		{"around one key", of(4, 6), whole[1:2]},
		{"of one key alone", one(5), whole[1:2]},
		{"of one key that is not there", one(6), nil},
		{"from the key behind one", api.Span{From: one(3).To, To: k(7)}, whole[1:2]},
		{"from one key to another", of(3, 7), whole[:2]},
		{"noughts", api.Span{}, nil},
		{"From and To the same", of(5, 5), nil},
		{"To below From", of(7, 3), nil},
		{"End, with a To below", api.Span{From: k(5), To: k(4), End: true}, whole[1:]},
		{"End, with a To above", api.Span{From: k(5), To: k(6), End: true}, whole[1:]},
		{"the greatest key", api.Span{From: high(0), End: true}, nil},
		{"all but the greatest key", api.Span{To: high(0)}, whole},
	} {
		scan(t, "Scan: "+c.what, b, c.s, c.want)
		scan(t, "Scan of none: "+c.what, view.NewPlain(nil), c.s, nil)
	}
}

// lists is all lists of at most so many of these items.
func lists[V any](items []V, most int) [][]V {
	each := [][]V{nil}
	for at := 0; most > 0; most-- {
		n := len(each)
		for ; at < n; at++ {
			for _, x := range items {
				each = append(each, append(slices.Clone(each[at]), x))
			}
		}
	}
	return each
}

// TestPlainAllShortLists (L1): a plain base against chapter 9's words, of all short lists and all spans between their keys.
func TestPlainAllShortLists(t *testing.T) {
	for _, u := range lines() {
		var items []api.Pair
		for _, k := range u {
			items = append(items, api.Pair{Key: k, Value: "a"}, api.Pair{Key: k})
		}
		for _, l := range lists(items, 3) {
			b := view.NewPlain(l)
			each := func(k api.Key) state { return ofPairs(l, k) }
			if want := u.pairsIn(all(), each); b.Len() != len(want) {
				t.Fatalf("Len of %s: %d", told(l), b.Len())
			}
			for _, s := range u.spans() {
				scan(t, "Scan of "+told(l), b, s, u.pairsIn(s, each))
			}
			for _, k := range u {
				if x := each(k); x.there {
					has(t, b, k, x.value)
				} else {
					hasNot(t, b, k)
				}
			}
			if t.Failed() {
				return
			}
		}
	}
}

// TestPlainKeeps (R1): the list that is handed in stays as it was, and is not kept; what is answered is the caller's.
func TestPlainKeeps(t *testing.T) {
	whole := pairs(p(3, "c"), p(1, "a"), p(3, "d"), p(2, "b"), p(9, "x"), p(0, "y"))
	was := slices.Clone(whole)
	b := view.NewPlain(whole[:4])
	want := pairs(p(1, "a"), p(2, "b"), p(3, "d"))
	scan(t, "Scan", b, all(), want)
	is(t, "what was handed in", whole, was)
	clear(whole)
	scan(t, "Scan, what was handed in being written over", b, all(), want)

	l, _ := b.Scan(of(1, 3))
	other, _ := b.Scan(all())
	clear(l[:cap(l)])
	_ = append(l, p(8, "z"), p(8, "z"))
	is(t, "another answer", other, want)
	scan(t, "Scan, an answer being written over", b, all(), want)
	has(t, b, k(1), "a")
	has(t, b, k(3), "d")
}

// TestPlainMany (L1): as many pairs as is promised of are found.
func TestPlainMany(t *testing.T) {
	const n = 1000000
	at := func(i int) api.Key { return api.Key{byte(i >> 16), byte(i >> 8), byte(i)} }
	var backward []api.Pair
	for i := range n {
		backward = append(backward, api.Pair{Key: at(n - 1 - i), Value: "a"})
	}
	b := view.NewPlain(backward)
	if b.Len() != n {
		t.Fatalf("Len: %d", b.Len())
	}
	for i := 0; i < n; i += 997 {
		has(t, b, at(i), "a")
		scan(t, "Scan", b, api.Span{From: at(i), To: at(i + 1)}, pairs(api.Pair{Key: at(i), Value: "a"}))
	}
	hasNot(t, b, at(n))
}
