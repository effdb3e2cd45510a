package dir_test

import (
	"fmt"
	"maps"
	"slices"
	"strings"
	"testing"
	"unicode/utf8"

	"wainscot/api"
	"wainscot/dir"
	"wainscot/view"
)

// under is the key that has this number, this kind and this rest, and noughts behind it.
func under(ino, kind int, rest string) api.Key {
	return api.Key([]byte(num(ino) + string(rune(kind)) + rest + strings.Repeat("\x00", 19-len(rest))))
}

// at is the key of an entry.
func at(dir int, name string) api.Key {
	k := under(dir, 2, name)
	k[23] = byte(len(name))
	return k
}

// num is the value of an entry: four bytes, the highest first.
func num(ino int) string {
	return string([]byte{byte(ino >> 24), byte(ino >> 16), byte(ino >> 8), byte(ino)})
}

// alone is the span of an entry's key, whose last byte is never the greatest.
func alone(dir int, name string) api.Span {
	next := at(dir, name)
	next[23]++
	return api.Span{From: at(dir, name), To: next}
}

// all is the span of a directory's entries.
func all(dir int) api.Span { return api.Span{From: under(dir, 2, ""), To: under(dir, 3, "")} }

// has is the pair of an entry.
func has(dir int, name string, ino int) api.Pair {
	return api.Pair{Key: at(dir, name), Value: num(ino)}
}

// put is the change that lets an entry tell a number.
func put(dir int, name string, ino int) api.Change {
	return api.Change{Key: at(dir, name), Value: num(ino)}
}

// gone is the change that takes an entry away.
func gone(dir int, name string) api.Change { return api.Change{Key: at(dir, name), Gone: true} }

func pairs(l ...api.Pair) []api.Pair       { return l }
func changes(l ...api.Change) []api.Change { return l }
func spans(l ...api.Span) []api.Span       { return l }
func texts(l ...string) []string           { return l }

func many(n int) string { return strings.Repeat("x", n) }

// see is a view of these pairs.
func see(l ...api.Pair) *view.View { return view.New(view.NewPlain(l)) }

// is asks for just these items.
func is[V comparable](t *testing.T, what string, got, want []V) {
	t.Helper()
	if !slices.Equal(got, want) {
		t.Errorf("%s: %q; want %q", what, fmt.Sprint(got), fmt.Sprint(want))
	}
}

// err asks for just this error.
func err(t *testing.T, what string, got, want api.Errno) {
	t.Helper()
	if got != want {
		t.Errorf("%s: %v; want %v", what, got, want)
	}
}

// finds asks Find for just this answer.
func finds(t *testing.T, what string, v *view.View, d int, name string, ino int, there bool, want api.Errno) {
	t.Helper()
	if n, ok, e := dir.Find(v, d, name); n != ino || ok != there || e != want {
		t.Errorf("%s: Find of %d, %.40q: %d, %v, %v; want %d, %v, %v", what, d, name, n, ok, e, ino, there, want)
	}
}

// found asks Find for this number.
func found(t *testing.T, what string, v *view.View, d int, name string, ino int) {
	t.Helper()
	finds(t, what, v, d, name, ino, true, api.OK)
}

// lacks asks Find for nothing, without an error.
func lacks(t *testing.T, what string, v *view.View, d int, name string) {
	t.Helper()
	finds(t, what, v, d, name, 0, false, api.OK)
}

// lists asks List for just these names, and Empty whether there is none.
func lists(t *testing.T, what string, v *view.View, d int, want ...string) {
	t.Helper()
	got, e := dir.List(v, d)
	is(t, what+": List", got, want)
	err(t, what+": List", e, api.OK)
	empties(t, what, v, d, len(want) == 0, api.OK)
}

// refuses asks List for just this error.
func refuses(t *testing.T, what string, v *view.View, d int, want api.Errno) {
	t.Helper()
	got, e := dir.List(v, d)
	is(t, what+": List", got, nil)
	err(t, what+": List", e, want)
}

// empties asks Empty for just this answer.
func empties(t *testing.T, what string, v *view.View, d int, want bool, wantErr api.Errno) {
	t.Helper()
	if got, e := dir.Empty(v, d); got != want || e != wantErr {
		t.Errorf("%s: Empty of %d: %v, %v; want %v, %v", what, d, got, e, want, wantErr)
	}
}

// puts asks Put for no error.
func puts(t *testing.T, what string, v *view.View, d int, name string, ino int) {
	t.Helper()
	err(t, what+": Put", dir.Put(v, d, name, ino), api.OK)
}

// drops asks Drop for no error.
func drops(t *testing.T, what string, v *view.View, d int, name string) {
	t.Helper()
	err(t, what+": Drop", dir.Drop(v, d, name), api.OK)
}

// touched asks for just these Reads and Changes.
func touched(t *testing.T, what string, v *view.View, r []api.Span, c []api.Change) {
	t.Helper()
	is(t, what+": Reads", v.Reads(), r)
	is(t, what+": Changes", v.Changes(), c)
}

// place is an entry: of which directory, and its name.
type place struct {
	dir  int
	name string
}

// words is the chapter's words of a view in which all pairs are entries that are right, as plain as they are: without keys, and without the packages below.
type words struct {
	base    map[place]int
	changed map[place]int // 0: gone
	asked   []api.Span
}

func wordsOf(base map[place]int) *words {
	return &words{base: base, changed: map[place]int{}}
}

func isNumber(n int) bool { return n >= 1 && n <= 1073741823 }

func isName(s string) bool {
	if s == "" || len(s) > 18 || s == "." || s == ".." || !utf8.ValidString(s) {
		return false
	}
	return !strings.ContainsFunc(s, func(r rune) bool { return r == '/' || r < 32 || r == 127 })
}

// number is what an entry tells; 0, if there is none.
func (w *words) number(p place) int {
	if n, ok := w.changed[p]; ok {
		return n
	}
	return w.base[p]
}

func (w *words) find(d int, name string) (int, bool, api.Errno) {
	if !isNumber(d) || !isName(name) {
		return 0, false, api.EArg
	}
	p := place{d, name}
	if _, ok := w.changed[p]; !ok {
		w.asked = append(w.asked, alone(d, name))
	}
	return w.number(p), w.number(p) != 0, api.OK
}

func (w *words) put(d int, name string, ino int) api.Errno {
	if !isNumber(d) || !isName(name) || !isNumber(ino) {
		return api.EArg
	}
	w.changed[place{d, name}] = ino
	return api.OK
}

func (w *words) drop(d int, name string) api.Errno {
	if !isNumber(d) || !isName(name) {
		return api.EArg
	}
	w.changed[place{d, name}] = 0
	return api.OK
}

func (w *words) list(d int) ([]string, api.Errno) {
	if !isNumber(d) {
		return nil, api.EArg
	}
	w.asked = append(w.asked, all(d))
	names := map[string]bool{}
	for _, l := range []map[place]int{w.base, w.changed} {
		for p := range l {
			if p.dir == d && w.number(p) != 0 {
				names[p.name] = true
			}
		}
	}
	return slices.Sorted(maps.Keys(names)), api.OK
}

func compare(a, b api.Key) int { return strings.Compare(string(a[:]), string(b[:])) }

// changes is what was changed, by keys.
func (w *words) changes() []api.Change {
	var l []api.Change
	for p, n := range w.changed {
		if n == 0 {
			l = append(l, gone(p.dir, p.name))
		} else {
			l = append(l, put(p.dir, p.name, n))
		}
	}
	slices.SortFunc(l, func(a, b api.Change) int { return compare(a.Key, b.Key) })
	return l
}

// reads is the set of what was asked: of an entry that is in a directory that was asked for whole nothing more is told.
func (w *words) reads() []api.Span {
	l := slices.SortedFunc(slices.Values(w.asked), func(a, b api.Span) int { return compare(a.From, b.From) })
	var set []api.Span
	for _, s := range l {
		if end := len(set) - 1; end < 0 || compare(set[end].To, s.From) <= 0 {
			set = append(set, s)
		}
	}
	return set
}

// both is a view, and the words of it.
type both struct {
	v *view.View
	w *words
}

// bothOf is both of these entries.
func bothOf(base map[place]int) both {
	var l []api.Pair
	for p, n := range base {
		l = append(l, has(p.dir, p.name, n))
	}
	return both{see(l...), wordsOf(base)}
}

// same asks for the Reads and Changes that the words tell.
func (b both) same(t *testing.T, what string) {
	t.Helper()
	touched(t, what, b.v, b.w.reads(), b.w.changes())
}

func (b both) find(t *testing.T, d int, name string) {
	t.Helper()
	n, there, e := b.w.find(d, name)
	finds(t, "by the words", b.v, d, name, n, there, e)
	b.same(t, "Find")
}

func (b both) put(t *testing.T, d int, name string, ino int) {
	t.Helper()
	what := fmt.Sprintf("Put of %d, %.40q, %d", d, name, ino)
	err(t, what, dir.Put(b.v, d, name, ino), b.w.put(d, name, ino))
	b.same(t, what)
}

func (b both) drop(t *testing.T, d int, name string) {
	t.Helper()
	what := fmt.Sprintf("Drop of %d, %.40q", d, name)
	err(t, what, dir.Drop(b.v, d, name), b.w.drop(d, name))
	b.same(t, what)
}

func (b both) list(t *testing.T, d int) {
	t.Helper()
	what := fmt.Sprintf("List of %d", d)
	want, wantErr := b.w.list(d)
	got, e := dir.List(b.v, d)
	is(t, what, got, want)
	err(t, what, e, wantErr)
	b.same(t, what)
}

func (b both) empty(t *testing.T, d int) {
	t.Helper()
	l, e := b.w.list(d)
	empties(t, "by the words", b.v, d, e == api.OK && len(l) == 0, e)
	b.same(t, "Empty")
}
