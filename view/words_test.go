package view_test

import (
	"fmt"
	"slices"
	"strings"
	"testing"

	"wainscot/api"
	"wainscot/view"
)

// k is a key of one byte and noughts.
func k(b byte) api.Key { return api.Key{b} }

// p is a pair of such a key.
func p(b byte, v string) api.Pair { return api.Pair{Key: k(b), Value: v} }

// put is the change that gives such a key a value.
func put(b byte, v string) api.Change { return api.Change{Key: k(b), Value: v} }

// gone is the change that takes such a key away.
func gone(b byte) api.Change { return api.Change{Key: k(b), Gone: true} }

// of is the span from a to b of such keys.
func of(a, b byte) api.Span { return api.Span{From: k(a), To: k(b)} }

// from is the span from a on, to the end.
func from(a byte) api.Span { return api.Span{From: k(a), End: true} }

// all is the span of all keys.
func all() api.Span { return api.Span{End: true} }

// one is the span of such a key alone.
func one(b byte) api.Span { return api.Span{From: k(b), To: api.Key{0: b, 23: 1}} }

// last is the key that has b as its last byte, behind noughts: so keys stand beside one another.
func last(b byte) api.Key { return api.Key{23: b} }

// high is the key that is so many below the greatest one.
func high(below byte) api.Key {
	var k api.Key
	for i := range k {
		k[i] = 255
	}
	k[len(k)-1] -= below
	return k
}

func pairs(l ...api.Pair) []api.Pair       { return l }
func changes(l ...api.Change) []api.Change { return l }
func spans(l ...api.Span) []api.Span       { return l }

func many(n int) string { return strings.Repeat("v", n) }

// is asks for just these items.
func is[V comparable](t *testing.T, what string, got, want []V) {
	t.Helper()
	if !slices.Equal(got, want) {
		t.Errorf("%s: %s; want %s", what, told(got), told(want))
	}
}

func told[V any](l []V) string {
	var parts []string
	for _, x := range l {
		parts = append(parts, fmt.Sprintf("%+v", x))
	}
	return "[" + strings.Join(parts, ", ") + "]"
}

// err asks for just this error.
func err(t *testing.T, what string, got, want api.Errno) {
	t.Helper()
	if got != want {
		t.Errorf("%s: %v; want %v", what, got, want)
	}
}

// has asks for a key with this value.
func has(t *testing.T, b view.Base, k api.Key, want string) {
	t.Helper()
	if v, is, e := b.Get(k); v != want || !is || e != api.OK {
		t.Errorf("Get of %x: %q, %v, %v; want %q", k, v, is, e, want)
	}
}

// hasNot asks for no such key.
func hasNot(t *testing.T, b view.Base, k api.Key) {
	t.Helper()
	if v, is, e := b.Get(k); v != "" || is || e != api.OK {
		t.Errorf("Get of %x: %q, %v, %v; want none", k, v, is, e)
	}
}

// scan asks for just these pairs in a span.
func scan(t *testing.T, what string, b view.Base, s api.Span, want []api.Pair) {
	t.Helper()
	l, e := b.Scan(s)
	err(t, what, e, api.OK)
	is(t, what, l, want)
}

// below tells whether a is less than b: by the first byte that differs.
func below(a, b api.Key) bool {
	for i := range a {
		if a[i] != b[i] {
			return a[i] < b[i]
		}
	}
	return false
}

// in tells whether a key is in a span.
func in(s api.Span, k api.Key) bool { return !below(k, s.From) && (s.End || below(k, s.To)) }

// line is keys, rising, the least of all first: maps that have no other keys, and sets that begin and end at no others, are told by what they say of these.
type line []api.Key

// alone is the keys of the line of which each can be told from all others: the next key is in the line, or there is none.
func (u line) alone() []api.Key {
	var l []api.Key
	for i, k := range u {
		if k == high(0) || i+1 < len(u) && u[i+1] == next(k) {
			l = append(l, k)
		}
	}
	return l
}

// next is the key behind k.
func next(k api.Key) api.Key {
	for i := len(k) - 1; i >= 0; i-- {
		k[i]++
		if k[i] != 0 {
			break
		}
	}
	return k
}

// state is what a map has of one key: that it is there with a value, or (zero) that it is not.
type state struct {
	value string
	there bool
}

// ofPairs is chapter 9's words, of one key: it has the value of the last pair with it.
func ofPairs(l []api.Pair, k api.Key) state {
	for _, x := range slices.Backward(l) {
		if x.Key == k {
			return state{x.Value, true}
		}
	}
	return state{}
}

// pairsIn is all pairs of a span, of keys that are as each says.
func (u line) pairsIn(s api.Span, each func(k api.Key) state) []api.Pair {
	var l []api.Pair
	for _, k := range u {
		if x := each(k); x.there && in(s, k) {
			l = append(l, api.Pair{Key: k, Value: x.value})
		}
	}
	return l
}

// set is the clean list of the keys that means takes, which begins and ends at keys of the line alone.
func (u line) set(means func(k api.Key) bool) []api.Span {
	var l []api.Span
	was := false
	for _, k := range u {
		now := means(k)
		if now && !was {
			l = append(l, api.Span{From: k, End: true})
		}
		if !now && was {
			l[len(l)-1] = api.Span{From: l[len(l)-1].From, To: k}
		}
		was = now
	}
	return l
}

// spans is all spans between keys of the line, empty ones too, and with an End each.
func (u line) spans() []api.Span {
	var l []api.Span
	for _, a := range u {
		for _, b := range u {
			l = append(l, api.Span{From: a, To: b}, api.Span{From: a, To: b, End: true})
		}
	}
	return l
}

// words is the chapter's words of a view, as plain as they are: all that was done is a list, and what was done behind a mark that one went back to was never done.
type words struct {
	line  line
	base  []api.Pair
	done  []api.Change
	marks []int // how much was done, at each
	asked []api.Span
}

func (w *words) last(k api.Key) (api.Change, bool) {
	for _, x := range slices.Backward(w.done) {
		if x.Key == k {
			return x, true
		}
	}
	return api.Change{}, false
}

func (w *words) state(k api.Key) state {
	x, ok := w.last(k)
	if !ok {
		return ofPairs(w.base, k)
	}
	return state{x.Value, !x.Gone}
}

func (w *words) get(k api.Key) state {
	if _, ok := w.last(k); !ok {
		w.asked = append(w.asked, w.line.set(func(x api.Key) bool { return x == k })...)
	}
	return w.state(k)
}

func (w *words) scan(s api.Span) []api.Pair {
	w.asked = append(w.asked, s)
	return w.line.pairsIn(s, w.state)
}

func (w *words) put(k api.Key, v string) api.Errno {
	if len(v) == 0 || len(v) > 40 {
		return api.EArg
	}
	w.done = append(w.done, api.Change{Key: k, Value: v})
	return api.OK
}

func (w *words) delete(k api.Key) {
	w.done = append(w.done, api.Change{Key: k, Gone: true})
}

func (w *words) changes() []api.Change {
	var l []api.Change
	for _, k := range w.line {
		if x, ok := w.last(k); ok {
			l = append(l, x)
		}
	}
	return l
}

func (w *words) reads() []api.Span {
	return w.line.set(func(k api.Key) bool {
		return slices.ContainsFunc(w.asked, func(s api.Span) bool { return in(s, k) })
	})
}

func (w *words) mark() int {
	w.marks = append(w.marks, len(w.done))
	return len(w.marks) - 1
}

func (w *words) back(m int) api.Errno {
	if m < 0 || m >= len(w.marks) {
		return api.EArg
	}
	w.done = w.done[:w.marks[m]]
	w.marks = w.marks[:m+1]
	return api.OK
}

// step is something that is done to a view: one of these letters, and what it is done with.
type step struct {
	what  byte // put, delete, get, scan, mark, back
	key   api.Key
	value string
	span  api.Span
	mark  int
}

// do does it, to a view and by the words, and asks for the same answers.
func (s step) do(t *testing.T, v *view.View, w *words) {
	t.Helper()
	switch s.what {
	case 'p':
		err(t, "Put", v.Put(s.key, s.value), w.put(s.key, s.value))
	case 'd':
		w.delete(s.key)
		err(t, "Delete", v.Delete(s.key), api.OK)
	case 'g':
		want := w.get(s.key)
		if value, there, e := v.Get(s.key); value != want.value || there != want.there || e != api.OK {
			t.Errorf("Get of %x: %q, %v, %v; want %+v", s.key, value, there, e, want)
		}
	case 's':
		scan(t, "Scan", v, s.span, w.scan(s.span))
	case 'm':
		if got, want := v.Mark(), w.mark(); got != want {
			t.Errorf("Mark: %d; want %d", got, want)
		}
	case 'b':
		err(t, "Back", v.Back(s.mark), w.back(s.mark))
	}
}

// same asks for the same of a view as the words say.
func same(t *testing.T, v *view.View, w *words) {
	t.Helper()
	is(t, "Reads", v.Reads(), w.reads())
	is(t, "Changes", v.Changes(), w.changes())
}

// end asks a view for all that it has; behind it all is read.
func end(t *testing.T, v *view.View, w *words) {
	t.Helper()
	same(t, v, w)
	for _, k := range w.line.alone() {
		step{what: 'g', key: k}.do(t, v, w)
	}
	same(t, v, w)
	step{what: 's', span: all()}.do(t, v, w)
	same(t, v, w)
}

// lines is a few lines, each with two keys that can be told from all others: at both ends of all keys, and where bytes run over.
func lines() []line {
	return []line{
		{{}, last(1), last(2)},
		{{}, high(1), high(0)},
		{{}, last(254), last(255), {22: 1}},
		{{}, {0: 127, 23: 255}, {0: 127, 22: 1}, {0: 127, 22: 1, 23: 1}},
	}
}

// steps is what may be done with two keys.
func steps(a, b api.Key) []step {
	var l []step
	for _, k := range []api.Key{a, b} {
		l = append(l, step{what: 'p', key: k, value: "a"}, step{what: 'p', key: k, value: "b"}, step{what: 'd', key: k}, step{what: 'g', key: k})
	}
	return append(l, step{what: 'p', key: a}, step{what: 's', span: api.Span{From: a, To: b}}, step{what: 's', span: api.Span{From: b, To: a, End: true}},
		step{what: 'm'}, step{what: 'b'}, step{what: 'b', mark: 1})
}

// TestAllShortWays (L2, L3): a view against the words, of all that may be done in a few steps.
func TestAllShortWays(t *testing.T) {
	const most = 4
	for _, u := range lines() {
		own := u.alone()
		each := steps(own[0], own[1])
		base := pairs(api.Pair{Key: own[0], Value: "a"})
		var way []step
		var on func()
		on = func() {
			v, w := view.New(view.NewPlain(base)), &words{line: u, base: base}
			for _, s := range way {
				s.do(t, v, w)
			}
			end(t, v, w)
			if t.Failed() {
				t.Fatalf("by %s", told(way))
			}
			if len(way) == most {
				return
			}
			for _, s := range each {
				way = append(way, s)
				on()
				way = way[:len(way)-1]
			}
		}
		on()
	}
}

// dice is numbers that look thrown, the same ones each time.
type dice uint32

func (d *dice) below(n int) int {
	*d = *d*1664525 + 1013904223
	return int(uint32(*d)>>8) % n
}

// wide is a line of so many keys that stand beside one another.
func wide(n int) line {
	var u line
	for i := range n {
		u = append(u, api.Key{22: byte(i >> 8), 23: byte(i)})
	}
	return u
}

// thrown is a step with one of these keys each.
func thrown(d *dice, keys []api.Key) step {
	values := []string{"", "a", "b", many(40), many(41)}
	k := func() api.Key { return keys[d.below(len(keys))] }
	return step{
		what:  "pppppdddggsmmb"[d.below(14)],
		key:   k(),
		value: values[d.below(len(values))],
		span:  api.Span{From: k(), To: k(), End: d.below(8) == 0},
		mark:  d.below(12) - 1,
	}
}

// TestLongWays (L2, L3): a view against the words, of many steps that look thrown, with few keys and with many.
func TestLongWays(t *testing.T) {
	d := dice(12)
	for i := range 60 {
		u := wide([]int{5, 40, 300}[i%3])
		own := u.alone()
		var base []api.Pair
		for range d.below(len(own)) {
			base = append(base, api.Pair{Key: own[d.below(len(own))], Value: many(d.below(3))})
		}
		v, w := view.New(view.NewPlain(base)), &words{line: u, base: base}
		for range 150 {
			thrown(&d, own).do(t, v, w)
			same(t, v, w)
		}
		end(t, v, w)
		if t.Failed() {
			return
		}
	}
}
