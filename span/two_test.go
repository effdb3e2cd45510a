package span_test

import (
	"testing"

	"wainscot/api"
	"wainscot/span"
)

// TestTwo (H2, H3): what is in both lists, and what is in one alone, written out.
func TestTwo(t *testing.T) {
	for _, c := range []struct {
		what              string
		a, b              []api.Span
		both, less, other []api.Span // other: Less the other way round
	}{
		{"nothing", nil, nil, nil, nil, nil},
		{"no spans", list(), list(), nil, nil, nil},
		{"empty spans", list(of('c', 'a'), of('b', 'b')), list(of('b', 'b'), api.Span{}), nil, nil, nil},
		{"a list and nothing", list(of('c', 'd'), of('a', 'b')), nil, nil, list(of('a', 'b'), of('c', 'd')), nil},
		{"a list and empty spans", list(of('a', 'd')), list(of('b', 'b'), of('c', 'a')), nil, list(of('a', 'd')), nil},
		{"the chapter's example", list(of('a', 'd')), list(of('b', 'c')), list(of('b', 'c')), list(of('a', 'b'), of('c', 'd')), nil},
		{"itself", list(of('a', 'd'), of('x', 'y')), list(of('a', 'd'), of('x', 'y')), list(of('a', 'd'), of('x', 'y')), nil, nil},
		{"itself, told otherwise", list(of('a', 'd')), list(of('c', 'd'), of('a', 'b'), of('b', 'c')), list(of('a', 'd')), nil, nil},
		{"all keys and nothing", list(all()), nil, nil, list(all()), nil},
		{"all keys and all keys", list(all()), list(of(0, 'c'), from('c')), list(all()), nil, nil},
		{"all keys and some", list(all()), list(of('b', 'c')), list(of('b', 'c')), list(of(0, 'b'), from('c')), nil},
		{"all keys and the last ones", list(all()), list(from('b')), list(from('b')), list(of(0, 'b')), nil},
		{"all keys and the first ones", list(all()), list(of(0, 'b')), list(of(0, 'b')), list(from('b')), nil},
		{"all keys and the greatest one", list(all()), list(api.Span{From: high(0), End: true}), list(api.Span{From: high(0), End: true}), list(api.Span{To: high(0)}), nil},
		{"all keys and all but the greatest", list(all()), list(api.Span{To: high(0)}), list(api.Span{To: high(0)}), list(api.Span{From: high(0), End: true}), nil},
		{"they meet without a key together", list(of('a', 'c')), list(of('c', 'd')), nil, list(of('a', 'c')), list(of('c', 'd'))},
		{"they meet at an End's From", list(of('a', 'c')), list(from('c')), nil, list(of('a', 'c')), list(from('c'))},
		{"they meet on both sides", list(of('a', 'c'), of('d', 'f')), list(of('c', 'd')), nil, list(of('a', 'c'), of('d', 'f')), list(of('c', 'd'))},
		{"one key together", list(near(1, 5)), list(near(4, 9)), list(near(4, 5)), list(near(1, 4)), list(near(5, 9))},
		{"apart by one key", list(near(1, 4)), list(near(5, 9)), nil, list(near(1, 4)), list(near(5, 9))},
		{"far apart", list(of('x', 'y')), list(of('a', 'b')), nil, list(of('x', 'y')), list(of('a', 'b'))},
		{"across", list(of('a', 'c')), list(of('b', 'd')), list(of('b', 'c')), list(of('a', 'b')), list(of('c', 'd'))},
		{"the same beginning", list(of('a', 'c')), list(of('a', 'd')), list(of('a', 'c')), nil, list(of('c', 'd'))},
		{"the same end", list(of('b', 'd')), list(of('a', 'd')), list(of('b', 'd')), nil, list(of('a', 'b'))},
		{"both with an End", list(from('c')), list(from('e')), list(from('e')), list(of('c', 'e')), nil},
		{"an End with a To", list(api.Span{From: api.Key{'c'}, To: api.Key{'d'}, End: true}), list(of('e', 'f')), list(of('e', 'f')), list(of('c', 'e'), from('f')), nil},
		{"an End with a To, taken away", list(of('a', 'f')), list(api.Span{From: api.Key{'c'}, To: api.Key{'d'}, End: true}), list(of('c', 'f')), list(of('a', 'c')), list(from('f'))},
		{"several with an End", list(from('e'), from('c')), list(from('d'), of('a', 'b')), list(from('d')), list(of('c', 'd')), list(of('a', 'b'))},
		{"what is left meets again", list(of('a', 'c'), of('c', 'e')), list(of('b', 'd')), list(of('b', 'd')), list(of('a', 'b'), of('d', 'e')), nil},
		{"parts that meet are one", list(of('a', 'e')), list(of('c', 'd'), of('b', 'c')), list(of('b', 'd')), list(of('a', 'b'), of('d', 'e')), nil},
		{"parts of two that meet are one", list(of('a', 'c'), of('c', 'e')), list(of('b', 'c'), of('c', 'd')), list(of('b', 'd')), list(of('a', 'b'), of('d', 'e')), nil},
		{"one key taken out", list(near(1, 9)), list(near(4, 5)), list(near(4, 5)), list(near(1, 4), near(5, 9)), nil},
		{"the first and the last key taken away", list(near(1, 9)), list(near(8, 9), near(1, 2)), list(near(1, 2), near(8, 9)), list(near(2, 8)), nil},
		{"twice in one, once in the other", list(of('a', 'd'), of('b', 'c')), list(of('c', 'e')), list(of('c', 'd')), list(of('a', 'c')), list(of('d', 'e'))},
		{"once in one, twice in the other", list(of('a', 'f')), list(of('b', 'd'), of('c', 'e')), list(of('b', 'e')), list(of('a', 'b'), of('e', 'f')), nil},
		{"a comb and a span", list(of('g', 'h'), of('a', 'b'), of('e', 'f'), of('c', 'd')), list(of('c', 'g')), list(of('c', 'd'), of('e', 'f')), list(of('a', 'b'), of('g', 'h')), list(of('d', 'e'), of('f', 'g'))},
		{"two combs", list(of('a', 'c'), of('d', 'f')), list(of('e', 'g'), of('b', 'd')), list(of('b', 'c'), of('e', 'f')), list(of('a', 'b'), of('d', 'e')), list(of('c', 'd'), of('f', 'g'))},
	} {
		is(t, "Both: "+c.what, span.Both(c.a, c.b), c.both)
		is(t, "Both, the other way round: "+c.what, span.Both(c.b, c.a), c.both)
		is(t, "Less: "+c.what, span.Less(c.a, c.b), c.less)
		is(t, "Less, the other way round: "+c.what, span.Less(c.b, c.a), c.other)
		is(t, "Less of itself: "+c.what, span.Less(c.a, c.a), nil)
		want := len(c.both) > 0
		if span.Touch(c.a, c.b) != want || span.Touch(c.b, c.a) != want {
			t.Errorf("Touch: %s: want %v", c.what, want)
		}
	}
}

// TestAny (H2): one of the keys is enough, wherever it stands; of no keys there is none.
func TestAny(t *testing.T) {
	l := list(of('x', 'z'), of('c', 'a'), of('a', 'c'), of('b', 'd'), of('q', 'q'))
	for _, c := range []struct {
		l    []api.Span
		keys []api.Key
		want bool
	}{
		{nil, nil, false},
		{list(all()), nil, false},
		{list(all()), []api.Key{}, false},
		{list(all()), []api.Key{{}}, true},
		{list(all()), []api.Key{high(0)}, true},
		{nil, []api.Key{{}, {'a'}, high(0)}, false},
		{list(of('c', 'a'), of('b', 'b')), []api.Key{{'a'}, {'b'}, {'c'}}, false},
		{l, nil, false},
		{l, []api.Key{{'a'}}, true},
		{l, []api.Key{{'d'}}, false},
		{l, []api.Key{{'q'}, {'z'}, {'d'}, {}, high(0), {'w', 255}}, false},
		{l, []api.Key{{'q'}, {'z'}, {'d'}, {}, high(0), {'y'}}, true},
		{l, []api.Key{{'x'}, {'z'}, {'d'}}, true},
		{l, []api.Key{{'z'}, {'c', 255}, {'z'}}, true},
		{l, []api.Key{{'z'}, {'z'}, {'z'}}, false},
		{list(from('c'), from('e')), []api.Key{{'b'}, {'a'}}, false},
		{list(from('c'), from('e')), []api.Key{{'b'}, {'d'}}, true},
		{list(from('e'), from('c')), []api.Key{{'b'}, {'c'}}, true},
		{list(api.Span{From: last(5), To: last(3), End: true}), []api.Key{last(4), last(9)}, true},
		{list(api.Span{From: last(5), To: last(3), End: true}), []api.Key{last(4), last(3)}, false},
	} {
		if got := span.Any(c.l, c.keys); got != c.want {
			t.Errorf("Any %x of %s: %v", c.keys, told(c.l), got)
		}
	}
}
