package chunk_test

import (
	"math"
	"strings"
	"testing"

	"wainscot/api"
	"wainscot/chunk"
	"wainscot/view"
)

// TestExample (M1): the chapter's example.
func TestExample(t *testing.T) {
	v := view.New(nil)
	writes(t, "example", v, 5, 31, "abc")
	touched(t, "Write", v, spans(places(5, 0, 1)), changes(put(5, 0, noughts(31)+"a"), put(5, 1, "bc")))
	reads(t, "example", v, 5, 30, "\x00abc\x00")
	cuts(t, "example", v, 5, 32)
	touched(t, "Cut", v, spans(placesOn(5, 0)), changes(put(5, 0, noughts(31)+"a"), gone(5, 1)))
	reads(t, "example", v, 5, 31, "a"+noughts(40))
}

// TestRead (M1): what is read, and which chunks are asked for, in one chunk, in whole ones, over borders.
func TestRead(t *testing.T) {
	text := letters(32) + noughts(32) + "a\x00b" + noughts(29) + letters(128)[96:]
	l := pairs(has(7, 0, text[:32]), has(7, 2, "a\x00b"), has(7, 3, text[96:]), has(8, 0, "eight"), has(6, 1, "six"))
	for _, c := range []struct {
		what        string
		off, n      int
		first, last int
	}{
		{"the first byte", 0, 1, 0, 0},
		{"the last byte of a chunk", 31, 1, 0, 0},
		{"the first byte of the next one", 32, 1, 1, 1},
		{"some of a chunk", 3, 7, 0, 0},
		{"the beginning of a chunk", 64, 2, 2, 2},
		{"the end of a chunk", 100, 28, 3, 3},
		{"a chunk", 0, 32, 0, 0},
		{"a chunk that has no pair", 32, 32, 1, 1},
		{"a chunk in the midst", 64, 32, 2, 2},
		{"all but a byte of a chunk", 0, 31, 0, 0},
		{"all but the first byte of a chunk", 1, 31, 0, 0},
		{"a chunk and a byte", 0, 33, 0, 1},
		{"a byte and a chunk", 31, 33, 0, 1},
		{"two bytes over a border", 31, 2, 0, 1},
		{"32 bytes over a border", 80, 32, 2, 3},
		{"two chunks", 32, 64, 1, 2},
		{"four chunks", 0, 128, 0, 3},
		{"many, without both ends", 1, 126, 0, 3},
		{"noughts in the midst", 64, 3, 2, 2},
		{"noughts at the end", 66, 9, 2, 2},
	} {
		v := see(l...)
		reads(t, c.what, v, 7, c.off, text[c.off:c.off+c.n])
		touched(t, c.what, v, spans(places(7, c.first, c.last)), nil)
	}
}

// TestReadBehind (M1): behind all pairs, and in a file without any, are noughts.
func TestReadBehind(t *testing.T) {
	v := see(has(7, 0, "abc"), has(9, 0, "nine"))
	reads(t, "behind the bytes", v, 7, 2, "c"+noughts(29))
	reads(t, "behind the chunk", v, 7, 40, noughts(5))
	reads(t, "far behind", v, 7, 1<<19, noughts(1000))
	reads(t, "no such file", v, 8, 0, noughts(70))
	touched(t, "behind", v, spans(places(7, 0, 1), places(7, 1<<14, 1<<14+31), places(8, 0, 2)), nil)
}

// TestReadLast (M1): up to MaxSize, and all of a file.
func TestReadLast(t *testing.T) {
	l := pairs(has(7, 0, "a"), has(7, 32767, noughts(31)+"z"), has(7, 32768, "behind"), has(7, math.MaxUint32, "far behind"))
	v := see(l...)
	reads(t, "the last byte", v, 7, 1<<20-1, "z")
	touched(t, "the last byte", v, spans(places(7, 32767, 32767)), nil)
	reads(t, "the last chunk", v, 7, 1<<20-32, noughts(31)+"z")
	touched(t, "the last chunk", v, spans(places(7, 32767, 32767)), nil)
	reads(t, "all", v, 7, 0, "a"+noughts(1<<20-2)+"z")
	touched(t, "all", v, spans(places(7, 0, 32767)), nil)
}

// TestReadNothing (M1): of no byte, nothing is read of the view, wherever it is.
func TestReadNothing(t *testing.T) {
	for _, off := range []int{0, 1, 31, 32, 33, 1<<20 - 1, 1 << 20} {
		f := &base{pairs: pairs(has(7, 0, "a")), fails: 1, err: api.EIO}
		v := view.New(f)
		reads(t, "no byte", v, 7, off, "")
		touched(t, "no byte", v, nil, nil)
		if f.asked != 0 {
			t.Errorf("Read of no byte at %d asks the base", off)
		}
	}
}

// TestReadChanges (M1): what the view has changed is read, where the base has something else, or nothing.
func TestReadChanges(t *testing.T) {
	v := see(has(7, 0, "abc"), has(7, 1, "def"), has(7, 2, "ghi"))
	v.Put(at(7, 0), "xy")
	v.Delete(at(7, 1))
	v.Put(at(7, 3), "z")
	reads(t, "changed", v, 7, 0, "xy"+noughts(62)+"ghi"+noughts(29)+"z")
	touched(t, "changed", v, spans(places(7, 0, 3)), changes(put(7, 0, "xy"), gone(7, 1), put(7, 3, "z")))
}

// TestReadAll (M1): by the words, at each place of a few files, of each length.
func TestReadAll(t *testing.T) {
	for _, l := range files() {
		for off := range 100 {
			for n := range 100 {
				bothOf(l).read(t, 5, off, n)
			}
			if t.Failed() {
				return
			}
		}
	}
}

// TestReadBytes (M1): each byte is read as it is.
func TestReadBytes(t *testing.T) {
	for b := range 256 {
		one := string([]byte{byte(b)})
		v := view.New(nil)
		writes(t, "each byte", v, 7, 30, "a"+strings.Repeat(one, 3)+"z")
		reads(t, "each byte", v, 7, 30, "a"+strings.Repeat(one, 3)+"z")
	}
}

// TestReadOnes (M1): a text that is read in pieces is the one that is read at once.
func TestReadOnes(t *testing.T) {
	v := see(files()[3]...)
	whole, _ := chunk.Read(v, 5, 0, 130)
	for step := 1; step < 70; step++ {
		var b strings.Builder
		for off := 0; off < len(whole); off += step {
			s, e := chunk.Read(v, 5, off, min(step, len(whole)-off))
			err(t, "Read", e, api.OK)
			b.WriteString(s)
		}
		if b.String() != whole {
			t.Errorf("by %d bytes: %s; want %s", step, short(b.String()), short(whole))
		}
	}
}
