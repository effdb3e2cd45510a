package dir_test

import (
	"fmt"
	"slices"
	"testing"

	"wainscot/api"
	"wainscot/dir"
	"wainscot/view"
)

// TestList (N2): the names of one directory rise as texts do, whatever the order in which they were put; its entries are read, and nothing is changed.
func TestList(t *testing.T) {
	want := slices.Sorted(slices.Values(rightNames))
	for turn := range len(rightNames) {
		v := view.New(nil)
		var l []api.Pair
		for i := range rightNames {
			s := rightNames[(i*5+turn)%len(rightNames)]
			puts(t, "List", v, 7, s, i+1)
			l = append(l, has(7, s, i+1))
		}
		lists(t, "put", v, 7, want...)
		is(t, "put: Reads", v.Reads(), spans(all(7)))
		w := see(l...)
		lists(t, "base", w, 7, want...)
		touched(t, "base", w, spans(all(7)), nil)
	}
}

// TestListOrder (N2): bytes count, not characters' kinds, and a beginning stands ahead of what it begins.
func TestListOrder(t *testing.T) {
	v := view.New(nil)
	for i, s := range texts("é", "b", "aa", "a", "B", "a ", "ab", "…", "0", "10", "9", "~", "\U0001f600", "\uffff", "a\u0080") {
		puts(t, "order", v, 3, s, i+2)
	}
	lists(t, "order", v, 3, "0", "10", "9", "B", "a", "a ", "aa", "ab", "a\u0080", "b", "~", "é", "…", "\uffff", "\U0001f600")
}

// TestListMany (N2): a directory of a thousand entries, half of them the base's, some of them dropped.
func TestListMany(t *testing.T) {
	var l []api.Pair
	for i := 0; i < 1000; i += 2 {
		l = append(l, has(7, fmt.Sprintf("n%03d", i), i+1))
	}
	v := see(l...)
	for i := 999; i > 0; i -= 2 {
		puts(t, "many", v, 7, fmt.Sprintf("n%03d", i), i+1)
	}
	var want []string
	for i := range 1000 {
		s := fmt.Sprintf("n%03d", i)
		if i%7 == 3 {
			drops(t, "many", v, 7, s)
		} else {
			want = append(want, s)
		}
	}
	lists(t, "many", v, 7, want...)
}

// TestListChanged (N2): the base's entries with the view's changes in them; those that are changed are read as well.
func TestListChanged(t *testing.T) {
	v := see(has(7, "a", 2), has(7, "b", 3), has(7, "c", 4))
	drops(t, "changed", v, 7, "b")
	drops(t, "changed", v, 7, "x")
	puts(t, "changed", v, 7, "c", 9)
	puts(t, "changed", v, 7, "aa", 5)
	lists(t, "changed", v, 7, "a", "aa", "c")
	touched(t, "changed", v, spans(all(7)), changes(put(7, "aa", 5), gone(7, "b"), put(7, "c", 9), gone(7, "x")))
}

// TestNoEntries (N2): a directory without entries, by nature and since all were dropped; Empty alone reads what List reads.
func TestNoEntries(t *testing.T) {
	for _, d := range []int{1, 2, 7, 1<<30 - 1} {
		v := view.New(nil)
		empties(t, "none", v, d, true, api.OK)
		touched(t, "none", v, spans(all(d)), nil)
		lists(t, "none", v, d)
		touched(t, "none", v, spans(all(d)), nil)

		v = see(has(d, "a", 2), has(d, "b", 3))
		empties(t, "two", v, d, false, api.OK)
		touched(t, "two", v, spans(all(d)), nil)
		drops(t, "two", v, d, "a")
		lists(t, "one left", v, d, "b")
		drops(t, "two", v, d, "b")
		lists(t, "none left", v, d)
		puts(t, "none left", v, d, "c", 4)
		lists(t, "one anew", v, d, "c")
	}
}

// TestEmptyOne (N2): one entry is enough, whatever its name.
func TestEmptyOne(t *testing.T) {
	for _, s := range rightNames {
		v := see(has(7, s, 2))
		empties(t, s, v, 7, false, api.OK)
		empties(t, s, v, 6, true, api.OK)
		empties(t, s, v, 8, true, api.OK)
		touched(t, s, v, spans(all(6), all(7), all(8)), nil)
		w := view.New(nil)
		puts(t, s, w, 7, s, 2)
		empties(t, s, w, 7, false, api.OK)
		touched(t, s, w, spans(all(7)), changes(put(7, s, 2)))
	}
}

// TestBeside (N1, N2): directories beside one another, with the same names, have nothing to do with each other.
func TestBeside(t *testing.T) {
	for _, d := range []int{1, 2, 255, 256, 65535, 1 << 24, 1<<30 - 2} {
		v := view.New(nil)
		for i, s := range texts("b", "a", "c") {
			puts(t, "beside", v, d, s, 10+i)
			puts(t, "beside", v, d+1, s, 20+i)
		}
		drops(t, "beside", v, d, "a")
		puts(t, "beside", v, d+1, "d", 30)
		found(t, "beside", v, d, "b", 10)
		found(t, "beside", v, d+1, "b", 20)
		lacks(t, "beside", v, d, "a")
		found(t, "beside", v, d+1, "a", 21)
		lists(t, "beside", v, d, "b", "c")
		is(t, "beside: Reads", v.Reads(), spans(all(d)))
		lists(t, "beside", v, d+1, "a", "b", "c", "d")
		is(t, "beside: Reads", v.Reads(), spans(all(d), all(d+1)))
	}
}

// TestOtherKinds (N2): inodes and chunks of the directory's number, and all that is about it, are no entries of it, and are not looked at.
func TestOtherKinds(t *testing.T) {
	l := pairs(api.Pair{Key: under(7, 1, ""), Value: "\x01"}, api.Pair{Key: under(7, 3, ""), Value: "bytes"}, api.Pair{Key: under(7, 3, "a"), Value: "no key"})
	for _, kind := range []int{0, 1, 3, 4, 127} {
		l = append(l, api.Pair{Key: under(7, kind, "a\x01"), Value: num(5)}, api.Pair{Key: under(7, kind, ""), Value: num(5)})
	}
	last := under(7, 1, "")
	for i := 5; i < 24; i++ {
		last[i] = 255
	}
	l = append(l, api.Pair{Key: last, Value: num(5)}, has(6, "a", 5), has(8, "a", 5), has(7+256, "a", 5), has(7<<8, "a", 5))
	v := see(l...)
	lists(t, "other kinds", v, 7)
	touched(t, "other kinds", v, spans(all(7)), nil)
	lists(t, "other kinds", see(append(l, has(7, "n", 2))...), 7, "n")
}

// TestNumbersOfNothing (N2): List and Empty do not hang on the values.
func TestNumbersOfNothing(t *testing.T) {
	v := see(has(7, "a", 2), api.Pair{Key: at(7, "b"), Value: many(40)}, api.Pair{Key: at(7, "c"), Value: ""}, api.Pair{Key: at(7, "d"), Value: num(0)})
	lists(t, "values", v, 7, "a", "b", "c", "d")
	finds(t, "values", v, 7, "b", 0, false, api.ECorrupt)
	empties(t, "values", see(api.Pair{Key: at(8, "b"), Value: "no number"}), 8, false, api.OK)
}

// wrongKeys is keys among a directory's entries that are no entry's.
func wrongKeys(d int) []api.Key {
	l := []api.Key{under(d, 2, ""), under(d, 2, "a"), under(d, 2, "abc\x00\x01"), under(d, 2, "\x00a")}
	for _, c := range []struct {
		name string
		size byte
	}{
		{"", 1}, {"", 18}, {"", 255}, {"a", 0}, {"a", 2}, {"a", 18}, {"a", 19}, {"a", 97}, {"ab", 1}, {"ab", 3}, {"\x00", 1}, {"\x00a", 2}, {"a\x00", 2}, {"a\x00b", 3},
		{many(18), 0}, {many(18), 1}, {many(18), 17}, {many(18), 19}, {many(18), 20}, {many(18), 18 + 128}, {many(17), 18}, {many(17), 16},
	} {
		k := under(d, 2, c.name)
		k[23] = c.size
		l = append(l, k)
	}
	last := under(d, 2, "")
	for i := 5; i < 24; i++ {
		last[i] = 255
	}
	return append(l, last)
}

// TestWrongKeys (N2): a key of the directory that is no entry's, alone, ahead of all names and behind them. List tells it, by ECorrupt; to Empty it is there.
func TestWrongKeys(t *testing.T) {
	for _, k := range wrongKeys(7) {
		for _, own := range [][]api.Pair{nil, {has(7, "a", 2), has(7, "z", 3), has(7, "\u00a0", 4)}} {
			what := fmt.Sprintf("%x", k)
			v := see(append(own, api.Pair{Key: k, Value: num(2)})...)
			refuses(t, what, v, 7, api.ECorrupt)
			empties(t, what, v, 7, false, api.OK)
			touched(t, what, v, spans(all(7)), nil)
			lists(t, what, v, 6)
			lists(t, what, v, 8)

			v = see(own...)
			err(t, what, v.Put(k, num(2)), api.OK)
			refuses(t, what, v, 7, api.ECorrupt)
			touched(t, what, v, spans(all(7)), changes(api.Change{Key: k, Value: num(2)}))
			err(t, what, v.Delete(k), api.OK)
			if l, e := dir.List(v, 7); len(l) != len(own) || e != api.OK {
				t.Errorf("%s: List of what is left: %q, %v", what, l, e)
			}
			if len(own) > 0 {
				found(t, what, v, 7, "a", 2)
			}
		}
	}
}

// TestKeysOfWrongNames (N2): a key that is an entry's by its bytes is one, though nobody may put its name.
func TestKeysOfWrongNames(t *testing.T) {
	v := see(has(7, "..", 2), has(7, "a/b", 3), has(7, "\xff", 4), has(7, "\x01", 5), has(7, ".", 6))
	lists(t, "wrong names", v, 7, "\x01", ".", "..", "a/b", "\xff")
	finds(t, "wrong names", v, 7, "..", 0, false, api.EArg)
}
