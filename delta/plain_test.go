package delta_test

import (
	"fmt"
	"slices"
	"strings"
	"testing"

	"wainscot/api"
	"wainscot/delta"
)

// p is a pair of a key of one byte and noughts.
func p(k byte, v string) api.Pair { return api.Pair{Key: api.Key{k}, Value: v} }

// put is the change that gives such a key a value.
func put(k byte, v string) api.Change { return api.Change{Key: api.Key{k}, Value: v} }

// gone is the change that takes such a key away.
func gone(k byte) api.Change { return api.Change{Key: api.Key{k}, Gone: true} }

// goneWith is the same, with a Value that does not matter.
func goneWith(k byte, v string) api.Change {
	return api.Change{Key: api.Key{k}, Value: v, Gone: true}
}

func pairs(l ...api.Pair) []api.Pair       { return l }
func changes(l ...api.Change) []api.Change { return l }
func keys(l ...byte) []api.Key {
	var all []api.Key
	for _, k := range l {
		all = append(all, api.Key{k})
	}
	return all
}

// last is the key that has b as its last byte, behind noughts: so keys stand beside one another.
func last(b byte) api.Key { return api.Key{23: b} }

// high is the key that is so many below the greatest one.
func high(below byte) api.Key {
	var k api.Key
	for i := range k {
		k[i] = 255
	}
	k[len(k)-1] -= below
	return k
}

// is asks for just these items.
func is[V comparable](t *testing.T, what string, got, want []V) {
	t.Helper()
	if !slices.Equal(got, want) {
		t.Errorf("%s: %s; want %s", what, told(got), told(want))
	}
}

func told[V any](l []V) string {
	var parts []string
	for _, x := range l {
		parts = append(parts, fmt.Sprintf("%+v", x))
	}
	return "[" + strings.Join(parts, ", ") + "]"
}

// state is what a map has of one key: that it is there with a value, or (zero) that it is not.
type state struct {
	value string
	there bool
}

// ofPairs is the chapter's words, of one key: it has the value of the last pair with it.
func ofPairs(l []api.Pair, k api.Key) state {
	for i := len(l) - 1; i >= 0; i-- {
		if l[i].Key == k {
			return state{l[i].Value, true}
		}
	}
	return state{}
}

// ofChanges is the last change of a key, and whether there is one.
func ofChanges(c []api.Change, k api.Key) (api.Change, bool) {
	for i := len(c) - 1; i >= 0; i-- {
		if c[i].Key == k {
			return c[i], true
		}
	}
	return api.Change{}, false
}

// line is keys, rising: lists that have no other keys are told by what they say of these.
type line []api.Key

// wantMap is the map whose keys are as each says.
func (u line) wantMap(each func(k api.Key) state) []api.Pair {
	var l []api.Pair
	for _, k := range u {
		if s := each(k); s.there {
			l = append(l, api.Pair{Key: k, Value: s.value})
		}
	}
	return l
}

func (u line) plainMap(l []api.Pair) []api.Pair {
	return u.wantMap(func(k api.Key) state { return ofPairs(l, k) })
}

func (u line) plainApply(l []api.Pair, c []api.Change) []api.Pair {
	return u.wantMap(func(k api.Key) state {
		x, ok := ofChanges(c, k)
		if !ok {
			return ofPairs(l, k)
		}
		if x.Gone {
			return state{}
		}
		return state{x.Value, true}
	})
}

func (u line) plainDiff(a, b []api.Pair) []api.Change {
	var d []api.Change
	for _, k := range u {
		now := ofPairs(b, k)
		if now != ofPairs(a, k) {
			d = append(d, api.Change{Key: k, Value: now.value, Gone: !now.there})
		}
	}
	return d
}

func (u line) plainJoin(l ...[]api.Change) []api.Change {
	whole := slices.Concat(l...)
	var d []api.Change
	for _, k := range u {
		x, ok := ofChanges(whole, k)
		if !ok {
			continue
		}
		if x.Gone {
			x = api.Change{Key: k, Gone: true}
		}
		d = append(d, x)
	}
	return d
}

func (u line) plainMerge(base, theirs, mine []api.Pair) ([]api.Pair, []api.Key) {
	var clash []api.Key
	m := u.wantMap(func(k api.Key) state {
		b, t, m := ofPairs(base, k), ofPairs(theirs, k), ofPairs(mine, k)
		if b != m && b != t && t != m {
			clash = append(clash, k)
		}
		if b == m {
			return t
		}
		return m
	})
	return m, clash
}

// lines is a few lines: of keys that stand beside one another, at both ends of all keys, and of such that differ at their first bytes.
func lines() []line {
	return []line{
		{{}, last(1)},
		{high(1), high(0)},
		{last(255), {22: 1}},
		{{'a'}, {'a', 1}},
		{{127}, {128}},
	}
}

// lists is all lists of at most so many of these items.
func lists[V any](items []V, most int) [][]V {
	each := [][]V{nil}
	for at := 0; most > 0; most-- {
		n := len(each)
		for ; at < n; at++ {
			for _, x := range items {
				each = append(each, append(slices.Clone(each[at]), x))
			}
		}
	}
	return each
}

// pairs is a pair of each key with each of these values.
func (u line) pairs(values ...string) []api.Pair {
	var l []api.Pair
	for _, k := range u {
		for _, v := range values {
			l = append(l, api.Pair{Key: k, Value: v})
		}
	}
	return l
}

// changes is a change of each key with each of these values, with Gone and without.
func (u line) changes(values ...string) []api.Change {
	var l []api.Change
	for _, x := range u.pairs(values...) {
		l = append(l, api.Change{Key: x.Key, Value: x.Value}, api.Change{Key: x.Key, Value: x.Value, Gone: true})
	}
	return l
}

// TestAllShortLists (I1 to I3): each call against the plain words, of all short lists of pairs and of changes.
func TestAllShortLists(t *testing.T) {
	for _, u := range lines() {
		eachPairs, eachChanges := lists(u.pairs("", "a"), 3), lists(u.changes("", "a"), 2)
		for _, a := range eachPairs {
			is(t, "Map of "+told(a), delta.Map(a), u.plainMap(a))
			for _, c := range eachChanges {
				is(t, "Apply to "+told(a)+" of "+told(c), delta.Apply(a, c), u.plainApply(a, c))
			}
			for _, b := range eachPairs {
				is(t, "Diff of "+told(a)+" and "+told(b), delta.Diff(a, b), u.plainDiff(a, b))
			}
		}
		for _, c := range eachChanges {
			is(t, "Join of "+told(c), delta.Join(c), u.plainJoin(c))
			for _, d := range eachChanges {
				is(t, "Join of "+told(c)+" and "+told(d), delta.Join(c, d), u.plainJoin(c, d))
			}
		}
		if t.Failed() {
			return
		}
	}
}

// TestAllShortMerges (I3): three lists, of which each may have a key in several pairs.
func TestAllShortMerges(t *testing.T) {
	for _, u := range lines() {
		each := lists(u.pairs("", "a", "b"), 2)
		for _, base := range each {
			for _, theirs := range each {
				for _, mine := range each {
					m, c := delta.Merge(base, theirs, mine)
					wantM, wantC := u.plainMerge(base, theirs, mine)
					if !slices.Equal(m, wantM) || !slices.Equal(c, wantC) {
						t.Fatalf("Merge of %s, %s, %s: %s, %s; want %s, %s", told(base), told(theirs), told(mine), told(m), told(c), told(wantM), told(wantC))
					}
				}
			}
		}
	}
}

// dice is numbers that look thrown, the same ones each time.
type dice uint32

func (d *dice) below(n int) int {
	*d = *d*1664525 + 1013904223
	return int(uint32(*d)>>8) % n
}

// wide is a line of so many keys, which differ in their second and last bytes.
func wide(n int) line {
	var u line
	for i := range n {
		u = append(u, api.Key{1: byte(i >> 4), 23: byte(i & 15)})
	}
	return u
}

func (u line) thrownPairs(d *dice, n int) []api.Pair {
	values := []string{"", "a", "b"}
	var l []api.Pair
	for range n {
		l = append(l, api.Pair{Key: u[d.below(len(u))], Value: values[d.below(len(values))]})
	}
	return l
}

func (u line) thrownChanges(d *dice, n int) []api.Change {
	var c []api.Change
	for _, x := range u.thrownPairs(d, n) {
		c = append(c, api.Change{Key: x.Key, Value: x.Value, Gone: d.below(3) == 0})
	}
	return c
}

// TestLongLists (I1 to I3): each call against the plain words, of long lists in no order, and what the chapter says that follows.
func TestLongLists(t *testing.T) {
	d := dice(9)
	u := wide(40)
	for range 400 {
		a, b, base := u.thrownPairs(&d, d.below(80)), u.thrownPairs(&d, d.below(80)), u.thrownPairs(&d, d.below(80))
		c1, c2, c3 := u.thrownChanges(&d, d.below(50)), u.thrownChanges(&d, d.below(50)), u.thrownChanges(&d, d.below(50))
		is(t, "Map", delta.Map(a), u.plainMap(a))
		is(t, "Apply", delta.Apply(a, c1), u.plainApply(a, c1))
		is(t, "Diff", delta.Diff(a, b), u.plainDiff(a, b))
		is(t, "Join", delta.Join(c1, c2, c3), u.plainJoin(c1, c2, c3))
		m, clash := delta.Merge(base, a, b)
		wantM, wantClash := u.plainMerge(base, a, b)
		is(t, "Merge", m, wantM)
		is(t, "Merge's clashes", clash, wantClash)

		is(t, "Apply of Diff", delta.Apply(a, delta.Diff(a, b)), u.plainMap(b))
		is(t, "Apply of Join", delta.Apply(a, delta.Join(c1, c2, c3)), delta.Apply(delta.Apply(delta.Apply(a, c1), c2), c3))
		is(t, "Merge", m, delta.Apply(a, delta.Diff(base, b)))
		_, other := delta.Merge(base, b, a)
		is(t, "Merge's clashes, the other way round", other, wantClash)
		if t.Failed() {
			return
		}
	}
}
