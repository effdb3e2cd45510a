package chunk_test

import (
	"strings"
	"testing"
	"unsafe"

	"wainscot/api"
	"wainscot/chunk"
	"wainscot/view"
)

// share tells whether two texts have a byte in one place.
func share(a, b string) bool {
	if a == "" || b == "" {
		return false
	}
	from, other := uintptr(unsafe.Pointer(unsafe.StringData(a))), uintptr(unsafe.Pointer(unsafe.StringData(b)))
	return from < other+uintptr(len(b)) && other < from+uintptr(len(a))
}

// TestNothingIsShared (R1): data stays as it was, no part of it is kept, and no answer is a part of another or of what is kept.
func TestNothingIsShared(t *testing.T) {
	for _, n := range []int{1, 31, 32, 33, 64, 1000} {
		for _, off := range []int{0, 1, 32} {
			v := view.New(nil)
			data := strings.Clone(letters(n))
			writes(t, "shared", v, 7, off, data)
			cuts(t, "shared", v, 7, off+n)
			s, _ := chunk.Read(v, 7, off, n)
			again, _ := chunk.Read(v, 7, off, n)
			if data != letters(n) || s != data || again != data {
				t.Errorf("%d bytes at %d are not as they were", n, off)
			}
			if share(s, data) || share(s, again) {
				t.Errorf("%d bytes at %d: an answer is a part of something else", n, off)
			}
			for _, c := range v.Changes() {
				if share(c.Value, data) || share(c.Value, s) {
					t.Errorf("%d bytes at %d: a part is kept, or handed out", n, off)
				}
			}
		}
	}
}

// TestBaseStays (R1): what the view's base has stays as it was.
func TestBaseStays(t *testing.T) {
	l := pairs(has(7, 0, letters(32)), has(7, 1, "b"), has(8, 0, "c"))
	b := view.NewPlain(l)
	v := view.New(b)
	writes(t, "base", v, 7, 20, many(30))
	cuts(t, "base", v, 7, 3)
	reads(t, "base", v, 7, 0, letters(3)+noughts(60))
	got, _ := b.Scan(api.Span{End: true})
	is(t, "the base", got, l)
	reads(t, "another view", view.New(b), 7, 0, letters(32)+"b"+noughts(31))
}

// TestApart (R3): neither views nor files have to do with each other.
func TestApart(t *testing.T) {
	v, w := view.New(nil), view.New(nil)
	writes(t, "apart", v, 7, 0, "seven")
	writes(t, "apart", v, 8, 0, "eight")
	writes(t, "apart", w, 7, 0, "other")
	cuts(t, "apart", v, 7, 2)
	reads(t, "apart", v, 7, 0, "se"+noughts(40))
	reads(t, "apart", v, 8, 0, "eight"+noughts(40))
	reads(t, "apart", w, 7, 0, "other"+noughts(40))
	reads(t, "apart", w, 8, 0, noughts(40))
	touched(t, "apart", w, spans(places(7, 0, 1), places(8, 0, 1)), changes(put(7, 0, "other")))
}

// TestMarks (M1): no call makes a mark; Back takes back what was written and cut, and what was read stays read.
func TestMarks(t *testing.T) {
	v := see(has(7, 0, "abc"), has(7, 1, "def"))
	writes(t, "marks", v, 7, 1, "x")
	m := v.Mark()
	writes(t, "marks", v, 7, 30, many(40))
	cuts(t, "marks", v, 7, 1)
	reads(t, "marks", v, 7, 0, "a"+noughts(90))
	if n := v.Mark(); n != m+1 {
		t.Errorf("Mark: %d; want %d", n, m+1)
	}
	err(t, "Back", v.Back(m), api.OK)
	touched(t, "behind Back", v, spans(placesOn(7, 0)), changes(put(7, 0, "axc")))
	reads(t, "behind Back", v, 7, 0, "axc"+noughts(29)+"def"+noughts(61))
}

// TestViewOfView (M1): a view may be another one's base.
func TestViewOfView(t *testing.T) {
	below := see(has(7, 0, "abc"))
	writes(t, "below", below, 7, 3, "def")
	v := view.New(below)
	writes(t, "above", v, 7, 1, "--")
	reads(t, "above", v, 7, 0, "a--def")
	reads(t, "below", below, 7, 0, "abcdef")
	touched(t, "above", v, spans(places(7, 0, 0)), changes(put(7, 0, "a--def")))
}

// dice is numbers that look thrown, the same ones each time.
type dice uint32

func (d *dice) below(n int) int {
	*d = *d*1664525 + 1013904223
	return int(uint32(*d)>>8) % n
}

// thrown is a number that looks thrown, up to some places ahead of, or from some behind, an edge.
func (d *dice) thrown() int {
	near := []int{0, 0, 0, 32, 64, 128, 1<<20 - 64, 1 << 20}[d.below(8)]
	return near + d.below(150) - 10
}

// TestLongWays (M1, R4): files against the words, by many steps that look thrown; twice, with the same answers.
func TestLongWays(t *testing.T) {
	for turn := range 2 * 30 {
		d := dice(turn % 30)
		b := bothOf(files()[d.below(len(files()))])
		for range 60 {
			ino := []int{5, 5, 5, 5, 4, 6, 1, 1<<30 - 1, 0, 1 << 30}[d.below(10)]
			switch d.below(4) {
			case 0:
				b.read(t, ino, d.thrown(), d.below(200)-5)
			case 1:
				b.cut(t, ino, d.thrown())
			default:
				l := datas(d.below(150))
				b.write(t, ino, d.thrown(), l[d.below(len(l))])
			}
		}
		b.read(t, 5, 0, 400)
		b.read(t, 5, 1<<20-400, 400)
		if t.Failed() {
			t.Fatalf("by the dice %d", turn%30)
		}
	}
}
