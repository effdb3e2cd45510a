package dir_test

import (
	"slices"
	"strings"
	"testing"
	"unsafe"

	"wainscot/api"
	"wainscot/dir"
	"wainscot/view"
)

// share tells whether two texts have a byte in one place.
func share(a, b string) bool {
	if a == "" || b == "" {
		return false
	}
	from, other := uintptr(unsafe.Pointer(unsafe.StringData(a))), uintptr(unsafe.Pointer(unsafe.StringData(b)))
	return from < other+uintptr(len(b)) && other < from+uintptr(len(a))
}

// TestNothingIsShared (R1): a name stays as it was, and is not kept; two answers have nothing in one place, and one that is written over changes nothing within.
func TestNothingIsShared(t *testing.T) {
	v := view.New(nil)
	var own []string
	for i, s := range texts("first", "second", "third", strings.Repeat("é", 9)) {
		s = strings.Clone(s)
		own = append(own, s)
		puts(t, "shared", v, 7, s, i+2)
		found(t, "shared", v, 7, s, i+2)
	}
	is(t, "what was handed in", own, texts("first", "second", "third", strings.Repeat("é", 9)))
	a, _ := dir.List(v, 7)
	b, _ := dir.List(v, 7)
	for _, s := range a {
		for _, other := range slices.Concat(own, b) {
			if share(s, other) {
				t.Errorf("%q is a part of something else", s)
			}
		}
	}
	for i := range a {
		a[i] = "over"
	}
	a = append(a[:1], "written")
	lists(t, "written over", v, 7, b...)
	is(t, "another answer", b, own)
}

// TestBaseStays (R1): what the view's base has stays as it was.
func TestBaseStays(t *testing.T) {
	l := pairs(has(7, "a", 2), has(7, "b", 3), has(8, "a", 4))
	b := view.NewPlain(l)
	v := view.New(b)
	puts(t, "base", v, 7, "a", 9)
	drops(t, "base", v, 7, "b")
	puts(t, "base", v, 7, "c", 5)
	lists(t, "base", v, 7, "a", "c")
	got, _ := b.Scan(api.Span{End: true})
	is(t, "the base", got, l)
	w := view.New(b)
	lists(t, "another view", w, 7, "a", "b")
	found(t, "another view", w, 7, "a", 2)
}

// TestApart (R3): views have nothing to do with each other.
func TestApart(t *testing.T) {
	v, w := view.New(nil), view.New(nil)
	puts(t, "apart", v, 7, "a", 2)
	puts(t, "apart", w, 7, "b", 3)
	lists(t, "apart", v, 7, "a")
	touched(t, "apart", w, nil, changes(put(7, "b", 3)))
	lists(t, "apart", w, 7, "b")
	lacks(t, "apart", w, 7, "a")
}

// TestMarks (N1): no call makes a mark; Back takes back what was put and dropped, and what was read stays read.
func TestMarks(t *testing.T) {
	v := see(has(7, "a", 2), has(7, "b", 3))
	puts(t, "marks", v, 7, "c", 4)
	m := v.Mark()
	puts(t, "marks", v, 7, "c", 5)
	drops(t, "marks", v, 7, "a")
	puts(t, "marks", v, 7, "d", 6)
	lists(t, "marks", v, 7, "b", "c", "d")
	if n := v.Mark(); n != m+1 {
		t.Errorf("Mark: %d; want %d", n, m+1)
	}
	err(t, "Back", v.Back(m), api.OK)
	touched(t, "behind Back", v, spans(all(7)), changes(put(7, "c", 4)))
	lists(t, "behind Back", v, 7, "a", "b", "c")
	found(t, "behind Back", v, 7, "c", 4)
	lacks(t, "behind Back", v, 7, "d")
}

// TestViewOfView (N1, N2): a view may be another one's base.
func TestViewOfView(t *testing.T) {
	below := see(has(7, "a", 2))
	puts(t, "below", below, 7, "b", 3)
	v := view.New(below)
	drops(t, "above", v, 7, "a")
	puts(t, "above", v, 7, "c", 4)
	lists(t, "above", v, 7, "b", "c")
	found(t, "above", v, 7, "b", 3)
	touched(t, "above", v, spans(all(7)), changes(gone(7, "a"), put(7, "c", 4)))
	lists(t, "below", below, 7, "a", "b")
}

// dice is numbers that look thrown, the same ones each time.
type dice uint32

func (d *dice) below(n int) int {
	*d = *d*1664525 + 1013904223
	return int(uint32(*d)>>8) % n
}

// step does one of the calls that looks thrown, on few directories and names, some of which are none.
func (d *dice) step(t *testing.T, b both) {
	t.Helper()
	dirs := []int{7, 7, 7, 8, 8, 6, 1, 1<<30 - 1, 0, 1 << 30}
	names := texts("a", "b", "ab", "a", "b", "abcdefghijklmnopqr", "é", "..", "", many(19))
	in, name := dirs[d.below(len(dirs))], names[d.below(len(names))]
	switch d.below(7) {
	case 0:
		b.list(t, in)
	case 1:
		b.empty(t, in)
	case 2:
		b.drop(t, in, name)
	case 3, 4:
		b.find(t, in, name)
	default:
		inos := []int{2, 3, 4, 1<<30 - 1, 1, 0, 1 << 30}
		b.put(t, in, name, inos[d.below(len(inos))])
	}
}

// beginnings is what a view may have from the beginning on.
func beginnings() []map[place]int {
	return []map[place]int{
		{},
		{{7, "a"}: 2, {7, "ab"}: 3, {8, "a"}: 4},
		{{7, "b"}: 2, {6, "b"}: 2, {1, "b"}: 2, {1<<30 - 1, "é"}: 1<<30 - 1},
	}
}

// TestLongWays (N1, N2, R4): by many steps that look thrown, against the words; twice, with the same answers.
func TestLongWays(t *testing.T) {
	for turn := range 2 * 300 {
		d := dice(turn % 300)
		b := bothOf(beginnings()[d.below(3)])
		for range 40 {
			d.step(t, b)
		}
		for _, in := range []int{1, 6, 7, 8, 1<<30 - 1} {
			b.list(t, in)
		}
		if t.Failed() {
			t.Fatalf("by the dice %d", turn%300)
		}
	}
}

// TestShortWays (N1, N2): all ways of four steps on two entries of a directory and one of its neighbour, against the words.
func TestShortWays(t *testing.T) {
	steps := []func(b both){
		func(b both) { b.put(t, 7, "a", 2) },
		func(b both) { b.put(t, 7, "a", 3) },
		func(b both) { b.put(t, 7, "ab", 4) },
		func(b both) { b.put(t, 8, "a", 5) },
		func(b both) { b.drop(t, 7, "a") },
		func(b both) { b.drop(t, 7, "ab") },
		func(b both) { b.find(t, 7, "a") },
		func(b both) { b.find(t, 8, "a") },
		func(b both) { b.list(t, 7) },
		func(b both) { b.empty(t, 7) },
	}
	for way := range 10 * 10 * 10 * 10 {
		for i, base := range beginnings()[:2] {
			b := bothOf(base)
			for w, n := way, 0; n < 4; w, n = w/10, n+1 {
				steps[w%10](b)
			}
			if t.Failed() {
				t.Fatalf("way %04d, last step first, from the beginning %d", way, i)
			}
		}
	}
}
