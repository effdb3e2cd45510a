package delta_test

import (
	"slices"
	"strings"
	"testing"

	"wainscot/api"
	"wainscot/delta"
)

// TestMap (I1): lists written out, and the maps that they are taken for.
func TestMap(t *testing.T) {
	long := strings.Repeat("x", 3*api.MaxValue)
	for _, c := range []struct {
		what    string
		l, want []api.Pair
	}{
		{"nil", nil, nil},
		{"no pairs", pairs(), nil},
		{"one", pairs(p(1, "a")), pairs(p(1, "a"))},
		{"a map", pairs(p(1, "a"), p(2, "b"), p(9, "c")), pairs(p(1, "a"), p(2, "b"), p(9, "c"))},
		{"falling", pairs(p(9, "c"), p(2, "b"), p(1, "a")), pairs(p(1, "a"), p(2, "b"), p(9, "c"))},
		{"any order", pairs(p(2, "b"), p(9, "c"), p(1, "a")), pairs(p(1, "a"), p(2, "b"), p(9, "c"))},
		{"a key twice", pairs(p(2, "a"), p(1, "b"), p(2, "c")), pairs(p(1, "b"), p(2, "c"))},
		{"a key twice, side by side", pairs(p(1, "b"), p(1, "a")), pairs(p(1, "a"))},
		{"a key thrice, the least value last", pairs(p(1, "c"), p(1, "b"), p(1, "a")), pairs(p(1, "a"))},
		{"a key thrice, the greatest value last", pairs(p(1, "a"), p(1, "b"), p(1, "c")), pairs(p(1, "c"))},
		{"a key thrice, the first value again", pairs(p(1, "a"), p(1, "b"), p(1, "a")), pairs(p(1, "a"))},
		{"the same pair twice", pairs(p(1, "a"), p(1, "a")), pairs(p(1, "a"))},
		{"two keys twice each", pairs(p(2, "a"), p(1, "b"), p(1, "c"), p(2, "d")), pairs(p(1, "c"), p(2, "d"))},
		{"an empty value", pairs(p(1, "")), pairs(p(1, ""))},
		{"an empty value last", pairs(p(1, "a"), p(1, "")), pairs(p(1, ""))},
		{"an empty value first", pairs(p(1, ""), p(1, "a")), pairs(p(1, "a"))},
		{"the key of noughts", pairs(api.Pair{}), pairs(api.Pair{})},
		{"the least key and the greatest", pairs(api.Pair{Key: high(0), Value: "z"}, api.Pair{Value: "a"}), pairs(api.Pair{Value: "a"}, api.Pair{Key: high(0), Value: "z"})},
		{"keys beside one another", pairs(api.Pair{Key: last(3)}, api.Pair{Key: last(1)}, api.Pair{Key: last(2)}), pairs(api.Pair{Key: last(1)}, api.Pair{Key: last(2)}, api.Pair{Key: last(3)})},
		{"the first byte that differs tells", pairs(api.Pair{Key: api.Key{2}}, api.Pair{Key: api.Key{1, 255}}, api.Pair{Key: api.Key{1, 0, 255}}), pairs(api.Pair{Key: api.Key{1, 0, 255}}, api.Pair{Key: api.Key{1, 255}}, api.Pair{Key: api.Key{2}})},
		{"bytes above 127", pairs(p(128, "b"), p(127, "a"), p(255, "c")), pairs(p(127, "a"), p(128, "b"), p(255, "c"))},
		{"values longer than those of a tree", pairs(p(1, long)), pairs(p(1, long))},
		{"values that are no text", pairs(p(1, "\xff\x00"), p(2, "\x00")), pairs(p(1, "\xff\x00"), p(2, "\x00"))},
	} {
		got := delta.Map(c.l)
		is(t, "Map: "+c.what, got, c.want)
		is(t, "Map again: "+c.what, delta.Map(got), c.want)
		is(t, "Apply of nothing: "+c.what, delta.Apply(c.l, nil), c.want)
		is(t, "Apply of no changes: "+c.what, delta.Apply(c.l, changes()), c.want)
	}
}

// TestApply (I1): of a key that stands in several changes the last one counts.
func TestApply(t *testing.T) {
	two := pairs(p(1, "x"), p(2, "y"))
	loose := pairs(p(2, "o"), p(1, "x"), p(2, "y"))
	for _, c := range []struct {
		what string
		l    []api.Pair
		c    []api.Change
		want []api.Pair
	}{
		{"nothing to nothing", nil, nil, nil},
		{"a put to nothing", nil, changes(put(1, "a")), pairs(p(1, "a"))},
		{"Gone to nothing", nil, changes(gone(1)), nil},
		{"a key is put ahead", two, changes(put(0, "a")), pairs(p(0, "a"), p(1, "x"), p(2, "y"))},
		{"a key is put behind", two, changes(put(3, "a")), pairs(p(1, "x"), p(2, "y"), p(3, "a"))},
		{"a key is put between", pairs(p(1, "x"), p(3, "y")), changes(put(2, "a")), pairs(p(1, "x"), p(2, "a"), p(3, "y"))},
		{"a key that is there is put", two, changes(put(1, "z")), pairs(p(1, "z"), p(2, "y"))},
		{"a key is put as it is", two, changes(put(1, "x")), two},
		{"an empty value", two, changes(put(1, ""), put(3, "")), pairs(p(1, ""), p(2, "y"), p(3, ""))},
		{"a key that is there is gone", two, changes(gone(1)), pairs(p(2, "y"))},
		{"a key that is not there is gone", two, changes(gone(3)), two},
		{"a key with an empty value is gone", pairs(p(1, ""), p(2, "y")), changes(gone(1)), pairs(p(2, "y"))},
		{"Gone with a Value", two, changes(goneWith(1, "z"), goneWith(3, "z")), pairs(p(2, "y"))},
		{"Gone with the value that is there", two, changes(goneWith(1, "x")), pairs(p(2, "y"))},
		{"put, then gone", two, changes(put(1, "a"), gone(1), put(3, "a"), gone(3)), pairs(p(2, "y"))},
		{"gone, then put", two, changes(gone(1), put(1, "a"), gone(3), put(3, "a")), pairs(p(1, "a"), p(2, "y"), p(3, "a"))},
		{"gone, then put as it was", two, changes(gone(1), put(1, "x")), two},
		{"put, gone, put, far apart", two, changes(put(1, "a"), put(2, "b"), gone(1), gone(2), put(1, "c")), pairs(p(1, "c"))},
		{"put twice", two, changes(put(1, "b"), put(1, "a")), pairs(p(1, "a"), p(2, "y"))},
		{"gone twice", two, changes(gone(1), gone(1)), pairs(p(2, "y"))},
		{"all are gone", two, changes(gone(2), gone(1)), nil},
		{"all are gone, and one is put", two, changes(gone(2), put(7, "a"), gone(1)), pairs(p(7, "a"))},
		{"changes in any order", two, changes(put(9, "c"), put(0, "a"), gone(2), put(5, "b")), pairs(p(0, "a"), p(1, "x"), p(5, "b"), p(9, "c"))},
		{"a list of any pairs", loose, changes(put(1, "z")), pairs(p(1, "z"), p(2, "y"))},
		{"a key of several pairs is gone", loose, changes(gone(2)), pairs(p(1, "x"))},
		{"a key of several pairs is put", loose, changes(put(2, "z")), pairs(p(1, "x"), p(2, "z"))},
	} {
		is(t, "Apply: "+c.what, delta.Apply(c.l, c.c), c.want)
	}
}

// TestSameAgain (R4): a great many keys, whatever the order in which they stand; the answer is the same each time.
func TestSameAgain(t *testing.T) {
	u := wide(1000)
	l := u.pairs("a")
	backward := slices.Clone(l)
	slices.Reverse(backward)
	for range 20 {
		is(t, "Map", delta.Map(backward), l)
		is(t, "Apply", delta.Apply(nil, delta.Diff(nil, backward)), l)
	}
}

// TestMany: lists as long as is promised of are answered.
func TestMany(t *testing.T) {
	const n = 1000000
	at := func(i int) api.Key { return api.Key{byte(i >> 16), byte(i >> 8), byte(i)} }
	var backward []api.Pair
	for i := range n {
		backward = append(backward, api.Pair{Key: at(n - 1 - i), Value: "a"})
	}
	m := delta.Map(backward)
	if len(m) != n {
		t.Fatalf("Map: %d pairs", len(m))
	}
	for i, x := range m {
		if x.Key != at(i) {
			t.Fatalf("Map: %x at %d", x.Key, i)
		}
	}
}
