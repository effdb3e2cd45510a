package chunk_test

import (
	"strings"
	"testing"

	"wainscot/api"
	"wainscot/view"
)

// TestWrite (M1): what is written, which chunks are got and which are changed, in one chunk, in whole ones, over borders.
func TestWrite(t *testing.T) {
	old := many(128)
	for _, c := range []struct {
		what   string
		off, n int
		got    []api.Span
	}{
		{"the first byte", 0, 1, spans(places(7, 0, 0))},
		{"the last byte of a chunk", 31, 1, spans(places(7, 0, 0))},
		{"the first byte of the next one", 32, 1, spans(places(7, 1, 1))},
		{"some of a chunk", 35, 7, spans(places(7, 1, 1))},
		{"a chunk", 0, 32, nil},
		{"a chunk in the midst", 64, 32, nil},
		{"all but a byte of a chunk", 64, 31, spans(places(7, 2, 2))},
		{"all but the first byte of a chunk", 65, 31, spans(places(7, 2, 2))},
		{"a chunk and a byte", 0, 33, spans(places(7, 1, 1))},
		{"a byte and a chunk", 31, 33, spans(places(7, 0, 0))},
		{"two bytes over a border", 31, 2, spans(places(7, 0, 1))},
		{"32 bytes over a border", 80, 32, spans(places(7, 2, 3))},
		{"two chunks", 32, 64, nil},
		{"four chunks", 0, 128, nil},
		{"two parts, a chunk between", 31, 34, spans(places(7, 0, 0), places(7, 2, 2))},
		{"two parts, two chunks between", 1, 126, spans(places(7, 0, 0), places(7, 3, 3))},
	} {
		v := see(has(7, 0, many(32)), has(7, 1, many(32)), has(7, 2, many(32)), has(7, 3, many(32)), has(8, 0, "eight"), has(6, 1, "six"))
		want := old[:c.off] + letters(c.n) + old[c.off+c.n:]
		var changed []api.Change
		for place := c.off / 32; place*32 < c.off+c.n; place++ {
			changed = append(changed, put(7, place, want[place*32:place*32+32]))
		}
		writes(t, c.what, v, 7, c.off, letters(c.n))
		touched(t, c.what, v, c.got, changed)
		reads(t, c.what, v, 7, 0, want)
		reads(t, c.what, v, 8, 0, "eight"+noughts(40))
		reads(t, c.what, v, 6, 0, noughts(32)+"six")
	}
}

// TestWriteNothing (M1): of no byte, nothing is read and nothing changed, wherever it is.
func TestWriteNothing(t *testing.T) {
	for _, off := range []int{0, 1, 31, 32, 33, 1<<20 - 1, 1 << 20} {
		f := &base{pairs: pairs(has(7, 0, "a")), fails: 1, err: api.EIO}
		v := view.New(f)
		writes(t, "no byte", v, 7, off, "")
		touched(t, "no byte", v, nil, nil)
		if f.asked != 0 {
			t.Errorf("Write of no byte at %d asks the base", off)
		}
	}
}

// TestWriteNoughts (M1): a chunk of noughts alone has no pair; others have no noughts at their end.
func TestWriteNoughts(t *testing.T) {
	for _, c := range []struct {
		what, old string
		off       int
		data      string
		got       []api.Span
		want      api.Change
	}{
		{"noughts where there is none", "", 3, noughts(4), spans(places(7, 0, 0)), gone(7, 0)},
		{"a chunk of noughts where there is none", "", 0, noughts(32), nil, gone(7, 0)},
		{"noughts over all", "abc", 0, noughts(3), spans(places(7, 0, 0)), gone(7, 0)},
		{"a chunk of noughts over all", "abc", 0, noughts(32), nil, gone(7, 0)},
		{"noughts over the end", "abc", 2, noughts(5), spans(places(7, 0, 0)), put(7, 0, "ab")},
		{"noughts over the beginning", "abc", 0, noughts(2), spans(places(7, 0, 0)), put(7, 0, "\x00\x00c")},
		{"noughts in the midst", "abc", 1, "\x00", spans(places(7, 0, 0)), put(7, 0, "a\x00c")},
		{"noughts behind all", "abc", 3, noughts(29), spans(places(7, 0, 0)), put(7, 0, "abc")},
		{"a text with noughts at its end", "", 0, "ab\x00\x00", spans(places(7, 0, 0)), put(7, 0, "ab")},
		{"a text with noughts at its end, over others", "abcdef", 0, "xy\x00\x00", spans(places(7, 0, 0)), put(7, 0, "xy\x00\x00ef")},
		{"a text with noughts in the midst", "", 0, "a\x00b", spans(places(7, 0, 0)), put(7, 0, "a\x00b")},
		{"a text with noughts ahead", "abcdef", 1, "\x00\x00b", spans(places(7, 0, 0)), put(7, 0, "a\x00\x00bef")},
		{"a chunk with noughts at its end", "abc", 0, "x" + noughts(31), nil, put(7, 0, "x")},
		{"a chunk with noughts ahead", "abc", 0, noughts(31) + "x", nil, put(7, 0, noughts(31)+"x")},
		{"a byte behind noughts", "", 31, "x", spans(places(7, 0, 0)), put(7, 0, noughts(31)+"x")},
		{"the last byte away", many(32), 31, "\x00", spans(places(7, 0, 0)), put(7, 0, many(31))},
		{"the only byte away", noughts(31) + "x", 31, "\x00", spans(places(7, 0, 0)), gone(7, 0)},
		{"the same again", "abc", 0, "abc", spans(places(7, 0, 0)), put(7, 0, "abc")},
		{"the same chunk again", many(32), 0, many(32), nil, put(7, 0, many(32))},
	} {
		var l []api.Pair
		if c.old != "" {
			l = pairs(has(7, 0, c.old))
		}
		v := see(l...)
		writes(t, c.what, v, 7, c.off, c.data)
		touched(t, c.what, v, c.got, changes(c.want))
		reads(t, c.what, v, 7, 0, c.want.Value+noughts(32-len(c.want.Value)))
	}
}

// TestWriteManyNoughts (M1): of several chunks each one is told by itself.
func TestWriteManyNoughts(t *testing.T) {
	v := see(has(7, 0, "a"), has(7, 2, many(32)), has(7, 4, "e\x00f"))
	writes(t, "noughts over many", v, 7, 0, noughts(130))
	touched(t, "noughts over many", v, spans(places(7, 4, 4)), changes(gone(7, 0), gone(7, 1), gone(7, 2), gone(7, 3), put(7, 4, "\x00\x00f")))
	writes(t, "and again", v, 7, 40, "x"+noughts(60))
	touched(t, "and again", v, spans(places(7, 4, 4)), changes(gone(7, 0), put(7, 1, noughts(8)+"x"), gone(7, 2), gone(7, 3), put(7, 4, "\x00\x00f")))
	reads(t, "and again", v, 7, 0, noughts(40)+"x"+noughts(89)+"f"+noughts(40))
}

// TestWriteOver (M1): what the view has changed already is written over without a read.
func TestWriteOver(t *testing.T) {
	v := see(has(7, 0, "abc"), has(7, 1, "def"))
	v.Put(at(7, 0), "xyz")
	v.Delete(at(7, 1))
	writes(t, "over a change", v, 7, 1, "-")
	writes(t, "over what is gone", v, 7, 34, "-")
	touched(t, "over", v, nil, changes(put(7, 0, "x-z"), put(7, 1, "\x00\x00-")))
	writes(t, "over itself", v, 7, 2, strings.Repeat("+", 31))
	touched(t, "over itself", v, nil, changes(put(7, 0, "x-"+strings.Repeat("+", 30)), put(7, 1, "+\x00-")))
}

// TestWriteLast (M1): up to MaxSize, and all of a file.
func TestWriteLast(t *testing.T) {
	v := view.New(nil)
	writes(t, "the last byte", v, 7, 1<<20-1, "z")
	touched(t, "the last byte", v, spans(places(7, 32767, 32767)), changes(put(7, 32767, noughts(31)+"z")))
	v = view.New(nil)
	writes(t, "the last chunk", v, 7, 1<<20-32, many(32))
	touched(t, "the last chunk", v, nil, changes(put(7, 32767, many(32))))
	v = view.New(nil)
	writes(t, "all", v, 7, 0, letters(1<<20))
	is(t, "all: Reads", v.Reads(), nil)
	if l := v.Changes(); len(l) != 32768 || l[0] != put(7, 0, letters(32)) || l[32767] != put(7, 32767, letters(1 << 20)[1<<20-32:]) {
		t.Errorf("all: Changes: %s", told(l))
	}
	reads(t, "all", v, 7, 0, letters(1<<20))
}

// datas is texts of n bytes with noughts here and there.
func datas(n int) []string {
	return []string{letters(n), noughts(n), many(n/2) + noughts(n-n/2), noughts(n/2) + many(n-n/2), strings.Repeat("ab\x00", n)[:n]}
}

// TestWriteAll (M1): by the words, at each place of a few files, of each length.
func TestWriteAll(t *testing.T) {
	for _, l := range files() {
		for off := range 70 {
			for n := range 70 {
				for _, data := range datas(n) {
					b := bothOf(l)
					b.write(t, 5, off, data)
					b.read(t, 5, 0, 140)
				}
			}
			if t.Failed() {
				return
			}
		}
	}
}
