package chunk_test

import (
	"fmt"
	"maps"
	"slices"
	"strings"
	"testing"

	"wainscot/api"
	"wainscot/chunk"
	"wainscot/view"
)

// under is the key that has this number, kind and last four bytes, and noughts between.
func under(ino, kind, low int) api.Key {
	var k api.Key
	for i := range 4 {
		k[i] = byte(ino >> (24 - 8*i))
		k[20+i] = byte(low >> (24 - 8*i))
	}
	k[4] = byte(kind)
	return k
}

// at is the key of a chunk.
func at(ino, place int) api.Key { return under(ino, 3, place) }

// places is the span of a file's chunks from one place to another.
func places(ino, first, last int) api.Span {
	return api.Span{From: at(ino, first), To: at(ino, last+1)}
}

// placesOn is the span of all a file's chunks from a place on.
func placesOn(ino, first int) api.Span {
	return api.Span{From: at(ino, first), To: under(ino, 4, 0)}
}

// has is the pair of a chunk.
func has(ino, place int, value string) api.Pair {
	return api.Pair{Key: at(ino, place), Value: value}
}

// put is the change that gives a chunk a value.
func put(ino, place int, value string) api.Change {
	return api.Change{Key: at(ino, place), Value: value}
}

// gone is the change that takes a chunk away.
func gone(ino, place int) api.Change { return api.Change{Key: at(ino, place), Gone: true} }

func pairs(l ...api.Pair) []api.Pair       { return l }
func changes(l ...api.Change) []api.Change { return l }
func spans(l ...api.Span) []api.Span       { return l }

func noughts(n int) string { return strings.Repeat("\x00", n) }

func many(n int) string { return strings.Repeat("x", n) }

// letters is n bytes of which neighbours, and those of neighbouring chunks, differ.
func letters(n int) string {
	b := make([]byte, n)
	for i := range b {
		b[i] = byte(1 + i%251)
	}
	return string(b)
}

// see is a view of these pairs.
func see(l ...api.Pair) *view.View { return view.New(view.NewPlain(l)) }

// is asks for just these items.
func is[V comparable](t *testing.T, what string, got, want []V) {
	t.Helper()
	if !slices.Equal(got, want) {
		t.Errorf("%s: %s; want %s", what, told(got), told(want))
	}
}

// told is how many items a list has, and the first ones.
func told[V any](l []V) string {
	var parts []string
	for _, x := range l[:min(len(l), 12)] {
		parts = append(parts, fmt.Sprintf("%#v", x))
	}
	return fmt.Sprint(len(l), parts)
}

// err asks for just this error.
func err(t *testing.T, what string, got, want api.Errno) {
	t.Helper()
	if got != want {
		t.Errorf("%s: %v; want %v", what, got, want)
	}
}

// reads asks Read for just this text, without an error.
func reads(t *testing.T, what string, v *view.View, ino, off int, want string) {
	t.Helper()
	if got, e := chunk.Read(v, ino, off, len(want)); got != want || e != api.OK {
		t.Errorf("%s: Read of %d, %d, %d: %s, %v; want %s", what, ino, off, len(want), short(got), e, short(want))
	}
}

// short is a text in figures, cut where it is long.
func short(s string) string {
	if len(s) > 140 {
		return fmt.Sprintf("%x.. (%d bytes)", s[:140], len(s))
	}
	return fmt.Sprintf("%x", s)
}

// writes asks Write for no error.
func writes(t *testing.T, what string, v *view.View, ino, off int, data string) {
	t.Helper()
	err(t, what+": Write", chunk.Write(v, ino, off, data), api.OK)
}

// cuts asks Cut for no error.
func cuts(t *testing.T, what string, v *view.View, ino, size int) {
	t.Helper()
	err(t, what+": Cut", chunk.Cut(v, ino, size), api.OK)
}

// touched asks for just these Reads and Changes.
func touched(t *testing.T, what string, v *view.View, r []api.Span, c []api.Change) {
	t.Helper()
	is(t, what+": Reads", v.Reads(), r)
	is(t, what+": Changes", v.Changes(), c)
}

// words is the chapter's words of a view in which all keys are chunks', as plain as they are: byte by byte, chunk by chunk, without the packages below.
type words struct {
	base    map[api.Key]string
	changed map[api.Key]string // without a byte: gone
	asked   []api.Span
}

func wordsOf(l []api.Pair) *words {
	w := &words{base: map[api.Key]string{}, changed: map[api.Key]string{}}
	for _, x := range l {
		w.base[x.Key] = x.Value
	}
	return w
}

// value is what is under a key.
func (w *words) value(k api.Key) string {
	if x, ok := w.changed[k]; ok {
		return x
	}
	return w.base[k]
}

// byteAt is one byte of a file.
func (w *words) byteAt(ino, i int) byte {
	if x := w.value(at(ino, i/32)); i%32 < len(x) {
		return x[i%32]
	}
	return 0
}

// trimmed is the value of a chunk with these bytes.
func trimmed(b []byte) string {
	for len(b) > 0 && b[len(b)-1] == 0 {
		b = b[:len(b)-1]
	}
	return string(b)
}

func (w *words) read(ino, off, n int) (string, api.Errno) {
	if ino < 1 || ino > 1073741823 || off < 0 || n < 0 || off > 1048576 || n > 1048576 || off+n > 1048576 {
		return "", api.EArg
	}
	var b []byte
	for i := off; i < off+n; i++ {
		if i == off || i%32 == 0 {
			w.asked = append(w.asked, places(ino, i/32, i/32))
		}
		b = append(b, w.byteAt(ino, i))
	}
	return string(b), api.OK
}

func (w *words) write(ino, off int, data string) api.Errno {
	if ino < 1 || ino > 1073741823 || off < 0 || off > 1048576 || len(data) > 1048576 || off+len(data) > 1048576 {
		return api.EArg
	}
	for place := off / 32; place*32 < off+len(data) && data != ""; place++ {
		var b [32]byte
		stay := false
		for i := range b {
			if own := place*32 + i - off; 0 <= own && own < len(data) {
				b[i] = data[own]
			} else {
				b[i] = w.byteAt(ino, place*32+i)
				stay = true
			}
		}
		if _, ok := w.changed[at(ino, place)]; stay && !ok {
			w.asked = append(w.asked, places(ino, place, place))
		}
		w.changed[at(ino, place)] = trimmed(b[:])
	}
	return api.OK
}

func (w *words) cut(ino, size int) api.Errno {
	if ino < 1 || ino > 1073741823 || size < 0 || size > 1048576 {
		return api.EArg
	}
	w.asked = append(w.asked, placesOn(ino, size/32))
	for place := range w.placesOf(ino) {
		var b [32]byte
		for i := range b {
			if place*32+i < size {
				b[i] = w.byteAt(ino, place*32+i)
			}
		}
		if value := trimmed(b[:]); value != w.value(at(ino, place)) {
			w.changed[at(ino, place)] = value
		}
	}
	return api.OK
}

// placesOf is how many places a file has, up to the last one with a pair, be it gone or not.
func (w *words) placesOf(ino int) int {
	n := 0
	for _, l := range []map[api.Key]string{w.base, w.changed} {
		for k := range l {
			if place := int(k[21])<<16 | int(k[22])<<8 | int(k[23]); k == at(ino, place) {
				n = max(n, place+1)
			}
		}
	}
	return n
}

func compare(a, b api.Key) int { return strings.Compare(string(a[:]), string(b[:])) }

// changes is what was changed, by keys.
func (w *words) changes() []api.Change {
	var l []api.Change
	for _, k := range slices.SortedFunc(maps.Keys(w.changed), compare) {
		l = append(l, api.Change{Key: k, Value: w.changed[k], Gone: w.changed[k] == ""})
	}
	return l
}

// reads is the set of what was asked: spans that meet are one.
func (w *words) reads() []api.Span {
	l := slices.SortedFunc(slices.Values(w.asked), func(a, b api.Span) int { return compare(a.From, b.From) })
	var set []api.Span
	for _, s := range l {
		end := len(set) - 1
		switch {
		case end < 0 || compare(set[end].To, s.From) < 0:
			set = append(set, s)
		case compare(set[end].To, s.To) < 0:
			set[end].To = s.To
		}
	}
	return set
}

// both is a view, and the words of it.
type both struct {
	v *view.View
	w *words
}

func bothOf(l []api.Pair) both { return both{see(l...), wordsOf(l)} }

// same asks for the Reads and Changes that the words tell.
func (b both) same(t *testing.T, what string) {
	t.Helper()
	touched(t, what, b.v, b.w.reads(), b.w.changes())
}

func (b both) read(t *testing.T, ino, off, n int) {
	t.Helper()
	want, wantErr := b.w.read(ino, off, n)
	got, e := chunk.Read(b.v, ino, off, n)
	what := fmt.Sprintf("Read of %d, %d, %d", ino, off, n)
	if got != want {
		t.Errorf("%s: %s; want %s", what, short(got), short(want))
	}
	err(t, what, e, wantErr)
	b.same(t, what)
}

func (b both) write(t *testing.T, ino, off int, data string) {
	t.Helper()
	what := fmt.Sprintf("Write of %d, %d, %s", ino, off, short(data))
	err(t, what, chunk.Write(b.v, ino, off, data), b.w.write(ino, off, data))
	b.same(t, what)
}

func (b both) cut(t *testing.T, ino, size int) {
	t.Helper()
	what := fmt.Sprintf("Cut of %d, %d", ino, size)
	err(t, what, chunk.Cut(b.v, ino, size), b.w.cut(ino, size))
	b.same(t, what)
}

// files is a few files of number 5, of up to four chunks each, with others' chunks about them.
func files() [][]api.Pair {
	others := pairs(has(4, 0, "four"), has(4, 1, many(32)), has(6, 0, "six"), has(6, 2, many(32)))
	var all [][]api.Pair
	for _, own := range [][]api.Pair{
		nil,
		{has(5, 0, letters(32)), has(5, 1, letters(64)[32:]), has(5, 2, letters(96)[64:]), has(5, 3, letters(128)[96:])},
		{has(5, 1, "a\x00b")},
		{has(5, 0, noughts(31)+"e"), has(5, 1, "b"), has(5, 2, many(16))},
		{has(5, 0, "x"), has(5, 2, noughts(5)+"y"+noughts(5)+"z")},
	} {
		all = append(all, slices.Concat(others, own))
	}
	return all
}
