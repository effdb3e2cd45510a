package delta_test

import (
	"slices"
	"testing"

	"wainscot/api"
	"wainscot/delta"
)

// TestDiff (I2): the fewest changes, written out, and the other way round.
func TestDiff(t *testing.T) {
	two := pairs(p(1, "x"), p(2, "y"))
	for _, c := range []struct {
		what        string
		a, b        []api.Pair
		want, other []api.Change // other: the other way round
	}{
		{"the chapter's example", two, pairs(p(2, "z"), p(3, "w")), changes(gone(1), put(2, "z"), put(3, "w")), changes(put(1, "x"), put(2, "y"), gone(3))},
		{"nothing", nil, nil, nil, nil},
		{"no pairs", pairs(), pairs(), nil, nil},
		{"a map and itself", two, two, nil, nil},
		{"a map and itself, told otherwise", two, pairs(p(2, "o"), p(2, "y"), p(1, "o"), p(1, "x")), nil, nil},
		{"nothing and a map", nil, two, changes(put(1, "x"), put(2, "y")), changes(gone(1), gone(2))},
		{"no pairs and a map", pairs(), two, changes(put(1, "x"), put(2, "y")), changes(gone(1), gone(2))},
		{"nothing and an empty value", nil, pairs(p(1, "")), changes(put(1, "")), changes(gone(1))},
		{"an empty value and another one", pairs(p(1, "")), pairs(p(1, "a")), changes(put(1, "a")), changes(put(1, ""))},
		{"an empty value and itself", pairs(p(1, "")), pairs(p(1, "")), nil, nil},
		{"one more", two, pairs(p(0, "a"), p(1, "x"), p(2, "y")), changes(put(0, "a")), changes(gone(0))},
		{"one otherwise", two, pairs(p(1, "x"), p(2, "z")), changes(put(2, "z")), changes(put(2, "y"))},
		{"other keys", two, pairs(p(0, "a"), p(3, "b")), changes(put(0, "a"), gone(1), gone(2), put(3, "b")), changes(gone(0), put(1, "x"), put(2, "y"), gone(3))},
		{"the same values of other keys", two, pairs(p(3, "x"), p(4, "y")), changes(gone(1), gone(2), put(3, "x"), put(4, "y")), changes(put(1, "x"), put(2, "y"), gone(3), gone(4))},
		{"values are changed about", two, pairs(p(1, "y"), p(2, "x")), changes(put(1, "y"), put(2, "x")), changes(put(1, "x"), put(2, "y"))},
		{"any order", pairs(p(9, "i"), p(1, "a"), p(5, "e")), pairs(p(7, "g"), p(5, "f"), p(1, "a"), p(0, "o")), changes(put(0, "o"), put(5, "f"), put(7, "g"), gone(9)), changes(gone(0), put(5, "e"), gone(7), put(9, "i"))},
		{"only the last pair of a key counts", pairs(p(1, "a"), p(1, "x")), pairs(p(1, "x"), p(1, "a")), changes(put(1, "a")), changes(put(1, "x"))},
		{"a key that was otherwise ahead", pairs(p(1, "a"), p(1, "x")), pairs(p(1, "b"), p(1, "x")), nil, nil},
		{"the least key and the greatest", pairs(api.Pair{Value: "a"}), pairs(api.Pair{Key: high(0), Value: "a"}), changes(api.Change{Gone: true}, api.Change{Key: high(0), Value: "a"}), changes(api.Change{Value: "a"}, api.Change{Key: high(0), Gone: true})},
		{"a value that begins alike", pairs(p(1, "ab")), pairs(p(1, "abc")), changes(put(1, "abc")), changes(put(1, "ab"))},
	} {
		is(t, "Diff: "+c.what, delta.Diff(c.a, c.b), c.want)
		is(t, "Diff, the other way round: "+c.what, delta.Diff(c.b, c.a), c.other)
		is(t, "Diff of itself: "+c.what, delta.Diff(c.a, c.a), nil)
		is(t, "Apply of Diff: "+c.what, delta.Apply(c.a, delta.Diff(c.a, c.b)), delta.Map(c.b))
	}
}

// TestJoin (I2): any number of lists, of which the last change of a key counts; where Gone there is no Value.
func TestJoin(t *testing.T) {
	for _, c := range []struct {
		what string
		l    [][]api.Change
		want []api.Change
	}{
		{"no lists", nil, nil},
		{"nil", [][]api.Change{nil}, nil},
		{"empty ones", [][]api.Change{nil, changes(), nil, changes()}, nil},
		{"one", [][]api.Change{changes(put(1, "a"), gone(2))}, changes(put(1, "a"), gone(2))},
		{"one, in any order", [][]api.Change{changes(put(9, "c"), gone(2), put(1, "a"))}, changes(put(1, "a"), gone(2), put(9, "c"))},
		{"one, a key put twice", [][]api.Change{changes(put(1, "b"), put(1, "a"))}, changes(put(1, "a"))},
		{"one, a key put and gone", [][]api.Change{changes(put(1, "b"), gone(1))}, changes(gone(1))},
		{"one, a key gone and put", [][]api.Change{changes(gone(1), put(1, "b"))}, changes(put(1, "b"))},
		{"one, Gone with a Value", [][]api.Change{changes(goneWith(1, "b"))}, changes(gone(1))},
		{"a put of an empty value", [][]api.Change{changes(put(1, ""))}, changes(put(1, ""))},
		{"the key of noughts", [][]api.Change{{{}}, {{Gone: true}}}, changes(api.Change{Gone: true})},
		{"two, of other keys", [][]api.Change{changes(put(2, "b")), changes(put(1, "a"))}, changes(put(1, "a"), put(2, "b"))},
		{"two, put and put", [][]api.Change{changes(put(1, "b")), changes(put(1, "a"))}, changes(put(1, "a"))},
		{"two, put and gone", [][]api.Change{changes(put(1, "a")), changes(goneWith(1, "b"))}, changes(gone(1))},
		{"two, gone and put", [][]api.Change{changes(gone(1)), changes(put(1, "a"))}, changes(put(1, "a"))},
		{"two, gone with a Value, and put without", [][]api.Change{changes(goneWith(1, "b")), changes(put(1, ""))}, changes(put(1, ""))},
		{"two, gone and gone", [][]api.Change{changes(gone(1)), changes(goneWith(1, "b"))}, changes(gone(1))},
		{"two, the same", [][]api.Change{changes(put(1, "a")), changes(put(1, "a"))}, changes(put(1, "a"))},
		{"several, empty ones among them", [][]api.Change{nil, changes(put(3, "c"), put(1, "a")), changes(), changes(gone(3), put(2, "b")), nil, changes(put(1, "z"))}, changes(put(1, "z"), put(2, "b"), gone(3))},
		{"several, there and back", [][]api.Change{changes(put(1, "a")), changes(gone(1)), changes(put(1, "b")), changes(gone(1)), changes(put(1, "a"))}, changes(put(1, "a"))},
		{"several, the last list says nothing of it", [][]api.Change{changes(put(1, "a")), changes(put(1, "b")), changes(put(2, "c"))}, changes(put(1, "b"), put(2, "c"))},
		{"the least key and the greatest", [][]api.Change{{{Key: high(0)}}, {{}}}, changes(api.Change{}, api.Change{Key: high(0)})},
	} {
		got := delta.Join(c.l...)
		is(t, "Join: "+c.what, got, c.want)
		is(t, "Join again: "+c.what, delta.Join(got), c.want)
		is(t, "Join of all in one: "+c.what, delta.Join(slices.Concat(c.l...)), c.want)
		base := pairs(p(1, "x"), p(3, "y"), p(4, "z"))
		one := base
		for _, x := range c.l {
			one = delta.Apply(one, x)
		}
		is(t, "Apply of Join: "+c.what, delta.Apply(base, got), one)
	}
	is(t, "Join of nothing at all", delta.Join(), nil)
	is(t, "Join of two Diffs", delta.Join(delta.Diff(nil, pairs(p(1, "a"))), delta.Diff(pairs(p(1, "a")), nil)), changes(gone(1)))
}
