package span_test

import (
	"testing"

	"wainscot/api"
	"wainscot/key"
	"wainscot/span"
)

// TestClean (H1): lists written out, and the sets that mean the same.
func TestClean(t *testing.T) {
	for _, c := range []struct {
		what    string
		l, want []api.Span
	}{
		{"the chapter's example", list(of('a', 'c'), of('b', 'd')), list(of('a', 'd'))},
		{"nil", nil, nil},
		{"no spans", list(), nil},
		{"one", list(of('a', 'c')), list(of('a', 'c'))},
		{"To is From", list(of('a', 'a')), nil},
		{"To is From, noughts", list(api.Span{}), nil},
		{"To is below From", list(of('c', 'a')), nil},
		{"To is one below From", list(near(5, 4)), nil},
		{"empty ones alone", list(of('c', 'a'), of('b', 'b'), api.Span{}), nil},
		{"empty ones among others", list(of('e', 'b'), of('a', 'c'), of('b', 'b'), of('d', 'f'), of('f', 'd')), list(of('a', 'c'), of('d', 'f'))},
		{"an empty one where one ends", list(of('a', 'c'), of('c', 'c')), list(of('a', 'c'))},
		{"an empty one between two", list(of('a', 'b'), of('c', 'b'), of('c', 'd')), list(of('a', 'b'), of('c', 'd'))},
		{"one key", list(near(4, 5)), list(near(4, 5))},
		{"any order", list(of('g', 'h'), of('a', 'b'), of('e', 'f'), of('c', 'd')), list(of('a', 'b'), of('c', 'd'), of('e', 'f'), of('g', 'h'))},
		{"one within another one", list(of('a', 'f'), of('b', 'c')), list(of('a', 'f'))},
		{"one around another one", list(of('b', 'c'), of('a', 'f')), list(of('a', 'f'))},
		{"within, from its beginning on", list(of('a', 'f'), of('a', 'c')), list(of('a', 'f'))},
		{"within, to its end", list(of('a', 'f'), of('c', 'f')), list(of('a', 'f'))},
		{"within the first of two", list(of('a', 'f'), of('b', 'c'), of('e', 'g')), list(of('a', 'g'))},
		{"one begins where another one ends", list(of('a', 'c'), of('c', 'd')), list(of('a', 'd'))},
		{"one ends where another one begins", list(of('c', 'd'), of('a', 'c')), list(of('a', 'd'))},
		{"a row of such", list(of('d', 'e'), of('a', 'b'), of('c', 'd'), of('b', 'c')), list(of('a', 'e'))},
		{"such of one key each", list(near(5, 6), near(4, 5), near(6, 7)), list(near(4, 7))},
		{"one begins one key behind the end", list(near(1, 4), near(5, 7)), list(near(1, 4), near(5, 7))},
		{"one begins one key ahead of the end", list(near(1, 4), near(3, 7)), list(near(1, 7))},
		{"the same twice", list(of('a', 'c'), of('a', 'c')), list(of('a', 'c'))},
		{"the same thrice, and another one", list(of('a', 'c'), of('x', 'y'), of('a', 'c'), of('a', 'c')), list(of('a', 'c'), of('x', 'y'))},
		{"End", list(from('c')), list(from('c'))},
		{"End, with a To above", list(api.Span{From: api.Key{'c'}, To: api.Key{'d'}, End: true}), list(from('c'))},
		{"End, with a To below", list(api.Span{From: api.Key{'c'}, To: api.Key{'b'}, End: true}), list(from('c'))},
		{"End, with its From as To", list(api.Span{From: api.Key{'c'}, To: api.Key{'c'}, End: true}), list(from('c'))},
		{"End, with the greatest To", list(api.Span{From: api.Key{'c'}, To: high(0), End: true}), list(from('c'))},
		{"several with an End", list(from('e'), from('c'), from('d'), from('c')), list(from('c'))},
		{"End, and others ahead", list(from('e'), of('a', 'b'), of('c', 'd')), list(of('a', 'b'), of('c', 'd'), from('e'))},
		{"End, and others in it", list(of('f', 'g'), from('e'), of('x', 'y')), list(from('e'))},
		{"End, and one across its From", list(of('a', 'f'), from('e')), list(from('a'))},
		{"End, and one that ends at its From", list(of('a', 'e'), from('e')), list(from('a'))},
		{"End, and one that ends one ahead", list(near(1, 4), api.Span{From: last(5), End: true}), list(near(1, 4), api.Span{From: last(5), End: true})},
		{"all keys", list(all()), list(all())},
		{"all keys, and others", list(of('a', 'c'), all(), from('x'), of('c', 'a')), list(all())},
		{"all keys, in two", list(from('c'), of(0, 'c')), list(all())},
		{"the least key", list(near(0, 1)), list(near(0, 1))},
		{"the greatest key", list(api.Span{From: high(0), End: true}), list(api.Span{From: high(0), End: true})},
		{"all but the greatest key", list(api.Span{To: high(0)}), list(api.Span{To: high(0)})},
		{"all but the greatest, and that one", list(api.Span{From: high(0), End: true}, api.Span{To: high(0)}), list(all())},
	} {
		got := span.Clean(c.l)
		is(t, "Clean: "+c.what, got, c.want)
		is(t, "Clean again: "+c.what, span.Clean(got), c.want)
	}
}

// TestCleanKeys (H1): spans that package key makes.
func TestCleanKeys(t *testing.T) {
	a, _ := key.Entry(1, "a")
	z, _ := key.Chunk(1, 9)
	far := key.Entries(2)
	is(t, "Clean", span.Clean(list(key.One(z), far, key.Chunks(1, 7), key.One(a), key.Entries(1), key.Entries(0))),
		list(key.Entries(1), key.Chunks(1, 7), far))
	is(t, "Clean", span.Clean(list(key.Chunks(1, 0), key.Entries(1))), list(api.Span{From: key.Entries(1).From, To: key.Chunks(1, 0).To}))
	is(t, "Clean", span.Clean(list(key.One(last(6)), key.One(last(4)))), list(near(4, 5), near(6, 7)))
	is(t, "Clean", span.Clean(list(key.One(last(6)), key.One(last(4)), key.One(last(5)))), list(near(4, 7)))
	is(t, "Clean", span.Clean(list(key.One(high(0)), key.One(high(1)))), list(api.Span{From: high(1), End: true}))
}

// TestHas (H1): the first key of a span is in it, and the one that it ends at is not; of empty ones there is none.
func TestHas(t *testing.T) {
	mixed := list(near(9, 7), near(20, 30), near(5, 8), near(6, 6), near(25, 26))
	for _, c := range []struct {
		l    []api.Span
		k    api.Key
		want bool
	}{
		{nil, api.Key{}, false},
		{nil, high(0), false},
		{list(), last(1), false},
		{mixed, last(4), false},
		{mixed, last(5), true},
		{mixed, last(6), true},
		{mixed, last(7), true},
		{mixed, last(8), false},
		{mixed, last(9), false},
		{mixed, last(19), false},
		{mixed, last(20), true},
		{mixed, last(25), true},
		{mixed, last(26), true},
		{mixed, last(29), true},
		{mixed, last(30), false},
		{mixed, api.Key{}, false},
		{mixed, high(0), false},
		{list(near(9, 7)), last(8), false},
		{list(near(9, 7)), last(9), false},
		{list(near(9, 7)), last(7), false},
		{list(near(9, 9)), last(9), false},
		{list(api.Span{}), api.Key{}, false},
		{list(all()), api.Key{}, true},
		{list(all()), high(0), true},
		{list(api.Span{To: high(0)}), high(1), true},
		{list(api.Span{To: high(0)}), high(0), false},
		{list(api.Span{From: high(0), End: true}), high(0), true},
		{list(api.Span{From: high(0), End: true}), high(1), false},
		{list(of('a', 'b'), from('x')), api.Key{'w', 255}, false},
		{list(of('a', 'b'), from('x')), api.Key{'x'}, true},
		{list(of('a', 'b'), from('x')), high(0), true},
		{list(api.Span{From: last(5), To: last(3), End: true}), last(5), true},
		{list(api.Span{From: last(5), To: last(7), End: true}), last(8), true},
		{list(api.Span{From: last(5), To: last(7), End: true}), last(4), false},
		{list(from('x'), of('a', 'c')), api.Key{'b'}, true}, // in no order
	} {
		if got := span.Has(c.l, c.k); got != c.want {
			t.Errorf("Has %x of %s: %v", c.k, told(c.l), got)
		}
		if got := span.Any(c.l, []api.Key{c.k}); got != c.want {
			t.Errorf("Any %x of %s: %v", c.k, told(c.l), got)
		}
		if got := span.Touch(c.l, list(key.One(c.k))); got != c.want {
			t.Errorf("Touch %x of %s: %v", c.k, told(c.l), got)
		}
	}
}
