package chunk_test

import (
	"math"
	"testing"

	"wainscot/api"
	"wainscot/chunk"
	"wainscot/view"
)

// TestCut (M1): what stays, which chunks are scanned and which are changed, at borders and within chunks, ahead of all bytes and behind them.
func TestCut(t *testing.T) {
	old := letters(32) + noughts(32) + letters(64) + "a\x00b"
	l := pairs(has(7, 0, old[:32]), has(7, 2, old[64:96]), has(7, 3, old[96:128]), has(7, 4, "a\x00b"), has(8, 0, "eight"), has(6, 9, "six"))
	for _, c := range []struct {
		what  string
		size  int
		first int
		want  []api.Change
	}{
		{"all", 0, 0, changes(gone(7, 0), gone(7, 2), gone(7, 3), gone(7, 4))},
		{"all but a byte", 1, 0, changes(put(7, 0, old[:1]), gone(7, 2), gone(7, 3), gone(7, 4))},
		{"within the first chunk", 31, 0, changes(put(7, 0, old[:31]), gone(7, 2), gone(7, 3), gone(7, 4))},
		{"at the first border", 32, 1, changes(gone(7, 2), gone(7, 3), gone(7, 4))},
		{"within a chunk that has no pair", 33, 1, changes(gone(7, 2), gone(7, 3), gone(7, 4))},
		{"at the end of a chunk that has no pair", 63, 1, changes(gone(7, 2), gone(7, 3), gone(7, 4))},
		{"at the second border", 64, 2, changes(gone(7, 2), gone(7, 3), gone(7, 4))},
		{"a byte behind the second border", 65, 2, changes(put(7, 2, old[64:65]), gone(7, 3), gone(7, 4))},
		{"within a chunk in the midst", 100, 3, changes(put(7, 3, old[96:100]), gone(7, 4))},
		{"a byte ahead of a border", 127, 3, changes(put(7, 3, old[96:127]), gone(7, 4))},
		{"at the last border", 128, 4, changes(gone(7, 4))},
		{"ahead of a nought", 129, 4, changes(put(7, 4, "a"))},
		{"behind a nought", 130, 4, changes(put(7, 4, "a"))},
		{"behind the last byte", 131, 4, nil},
		{"within the last chunk, behind all bytes", 140, 4, nil},
		{"behind the last chunk", 160, 5, nil},
		{"far behind", 1<<20 - 1, 32767, nil},
		{"at MaxSize", 1 << 20, 32768, nil},
	} {
		v := see(l...)
		cuts(t, c.what, v, 7, c.size)
		touched(t, c.what, v, spans(placesOn(7, c.first)), c.want)
		stays := old[:min(c.size, len(old))]
		reads(t, c.what, v, 7, 0, stays+noughts(200-len(stays)))
		reads(t, c.what, v, 8, 0, "eight"+noughts(40))
		reads(t, c.what, v, 6, 288, "six")
		cuts(t, c.what+", again", v, 7, c.size)
		is(t, c.what+", again: Changes", v.Changes(), c.want)
	}
}

// TestCutNone (M1): of a file without a chunk all chunks are scanned, and none is changed.
func TestCutNone(t *testing.T) {
	for _, size := range []int{0, 1, 32, 33, 1 << 20} {
		v := see(has(6, 0, "a"), has(8, 0, "b"))
		cuts(t, "none", v, 7, size)
		touched(t, "none", v, spans(placesOn(7, size/32)), nil)
	}
}

// TestCutNoughts (M1): a chunk of which only noughts stay is gone, and one has no noughts at its end.
func TestCutNoughts(t *testing.T) {
	for _, c := range []struct {
		what, old string
		size      int
		want      []api.Change
	}{
		{"noughts alone stay", noughts(5) + "a", 5, changes(gone(7, 1))},
		{"noughts alone stay, of a whole chunk", noughts(31) + "a", 31, changes(gone(7, 1))},
		{"one nought stays", "\x00a", 1, changes(gone(7, 1))},
		{"noughts at the end", "ab" + noughts(5) + "c", 7, changes(put(7, 1, "ab"))},
		{"noughts in the midst stay", "a\x00b\x00c", 4, changes(put(7, 1, "a\x00b"))},
		{"nothing is cut off", "a\x00b", 3, nil},
		{"noughts alone are cut off", "a\x00b", 4, nil},
		{"all of it stays", many(31), 31, nil},
		{"its last byte is cut off", many(32), 31, changes(put(7, 1, many(31)))},
	} {
		v := see(has(7, 1, c.old))
		cuts(t, c.what, v, 7, 32+c.size)
		touched(t, c.what, v, spans(placesOn(7, 1)), c.want)
	}
}

// TestCutChanges (M1): what the view has changed is cut; what is gone stays so.
func TestCutChanges(t *testing.T) {
	v := see(has(7, 0, many(32)), has(7, 1, "b"), has(7, 2, "c"))
	v.Put(at(7, 0), "abc")
	v.Delete(at(7, 1))
	v.Put(at(7, 3), "d")
	v.Put(at(8, 3), "e")
	cuts(t, "changed", v, 7, 2)
	touched(t, "changed", v, spans(placesOn(7, 0)), changes(put(7, 0, "ab"), gone(7, 1), gone(7, 2), gone(7, 3), put(8, 3, "e")))
	reads(t, "changed", v, 7, 0, "ab"+noughts(130))
}

// TestCutBehindMaxSize (M1): all chunks from a place on are all there are, also those that no Write makes.
func TestCutBehindMaxSize(t *testing.T) {
	for _, size := range []int{64, 1<<20 - 1, 1 << 20} {
		v := see(has(7, 0, "a"), has(7, 32768, "behind"), has(7, 32769, many(32)), has(7, math.MaxUint32, "far behind"))
		cuts(t, "behind MaxSize", v, 7, size)
		touched(t, "behind MaxSize", v, spans(placesOn(7, size/32)), changes(gone(7, 32768), gone(7, 32769), gone(7, math.MaxUint32)))
	}
}

// TestCutOtherKeys (M1): keys that are no chunk's of the file stay, be they in the span or about it.
func TestCutOtherKeys(t *testing.T) {
	wrong, last := at(7, 1), at(7, 5)
	wrong[19] = 1
	for i := 5; i < 24; i++ {
		last[i] = 255
	}
	var l []api.Pair
	for _, k := range []api.Key{under(7, 1, 0), under(7, 2, 5), under(7, 4, 0), under(7, 0, 3), under(6, 3, 1), under(8, 3, 1), under(7+256, 3, 1), wrong, last} {
		l = append(l, api.Pair{Key: k, Value: many(32)})
	}
	v := see(append(l, has(7, 0, "ab"), has(7, 1, "c"))...)
	cuts(t, "other keys", v, 7, 1)
	touched(t, "other keys", v, spans(placesOn(7, 0)), changes(put(7, 0, "a"), gone(7, 1)))
}

// TestCutAll (M1): by the words, of a few files, at each size.
func TestCutAll(t *testing.T) {
	for _, l := range files() {
		for size := range 170 {
			b := bothOf(l)
			b.cut(t, 5, size)
			b.read(t, 5, 0, 140)
			b.write(t, 5, 20, many(30))
			b.cut(t, 5, size)
			b.read(t, 5, 0, 140)
		}
		if t.Failed() {
			return
		}
	}
}

// TestCutTwice (M1): one cut behind another is the lesser one.
func TestCutTwice(t *testing.T) {
	for a := range 130 {
		for b := range 130 {
			v, w := see(files()[1]...), see(files()[1]...)
			chunk.Cut(v, 5, a)
			chunk.Cut(v, 5, b)
			chunk.Cut(w, 5, min(a, b))
			is(t, "Changes", v.Changes(), w.Changes())
		}
	}
}

// TestWrittenBehindCut (M1): bytes that were cut off do not come again with a later Write.
func TestWrittenBehindCut(t *testing.T) {
	v := view.New(nil)
	writes(t, "first", v, 7, 0, letters(100))
	cuts(t, "then", v, 7, 10)
	writes(t, "behind", v, 7, 90, "x")
	reads(t, "behind", v, 7, 0, letters(10)+noughts(80)+"x"+noughts(30))
}
