package dir_test

import (
	"strings"
	"testing"

	"wainscot/api"
	"wainscot/dir"
	"wainscot/view"
)

// rightNames is names of the least and of the greatest length, and of characters at the edges.
var rightNames = []string{
	"a", "b", "ab", "A", " ", "~", "!", ".a", "a.", "...", "..a", "a..", "-", "\\", "\"",
	"abcdefghijklmnopqr", strings.Repeat("a", 17), strings.Repeat("a", 18), strings.Repeat(".", 18),
	"é", "bé", "éééééééééé"[:18], "\u0080", "\u07ff", "\u0800", "\ud7ff", "\ue000", "\ufffd", "\uffff", "\U00010000", "\U0010ffff",
	strings.Repeat("…", 6), strings.Repeat("\U0010ffff", 4), strings.Repeat("\U0010ffff", 4) + "é",
}

// wrongNames is texts that are no names, most of which a key has room for.
var wrongNames = []string{
	"", ".", "..", "/", "a/b", "/a", "a/", "//",
	"abcdefghijklmnopqrs", strings.Repeat("a", 19), strings.Repeat("é", 9) + "a", strings.Repeat("é", 10), strings.Repeat("a", 256+5), strings.Repeat("a", 1<<20),
	"\x00", "a\x00", "\x00a", "a\x00b", "\x01", "\n", "a\x1f", "\x1fa", "\x7f", "a\x7fb",
	"\xff", "\x80", "a\xc3", "\xc3a", "é\xa9", "\xe2\x80", "\xed\xa0\x80", "\xed\xbf\xbf", "\xc0\xaf", "\xc1\xbf", "\xe0\x80\xaf", "\xf0\x80\x80\xaf", "\xf4\x90\x80\x80", "\xf8\x88\x80\x80\x80",
}

// TestExample (N1, N2): the chapter's example.
func TestExample(t *testing.T) {
	v := view.New(nil)
	puts(t, "example", v, 1, "b", 2)
	puts(t, "example", v, 1, "a", 3)
	lists(t, "example", v, 1, "a", "b")
	found(t, "example", v, 1, "a", 3)
	found(t, "example", v, 1, "b", 2)
}

// TestFind (N1): what is there, and what is not; the entry's key alone is read, and nothing is changed.
func TestFind(t *testing.T) {
	l := pairs(has(7, "a", 2), has(7, "ab", 3), has(7, "b", 1<<30-1), has(8, "a", 4), has(6, "c", 5), has(7+256, "d", 6))
	for _, c := range []struct {
		dir  int
		name string
		ino  int // 0: there is none
	}{
		{7, "a", 2}, {7, "ab", 3}, {7, "b", 1<<30 - 1}, {8, "a", 4}, {6, "c", 5}, {263, "d", 6},
		{7, "c", 0}, {7, "d", 0}, {7, "abc", 0}, {7, "A", 0}, {7, "a ", 0}, {7, "ba", 0}, {8, "b", 0}, {8, "ab", 0}, {6, "a", 0}, {9, "a", 0}, {1, "a", 0},
	} {
		v := see(l...)
		finds(t, "first", v, c.dir, c.name, c.ino, c.ino != 0, api.OK)
		touched(t, "first", v, spans(alone(c.dir, c.name)), nil)
		finds(t, "again", v, c.dir, c.name, c.ino, c.ino != 0, api.OK)
		touched(t, "again", v, spans(alone(c.dir, c.name)), nil)
	}
}

// TestFindNames (N1): each name is found under its own key, and no other one.
func TestFindNames(t *testing.T) {
	for i, a := range rightNames {
		v := see(has(7, a, 100+i))
		for _, b := range rightNames {
			if b != a {
				lacks(t, "another name", v, 7, b)
			}
		}
		v = see(has(7, a, 100+i))
		found(t, "its own name", v, 7, a, 100+i)
		touched(t, "its own name", v, spans(alone(7, a)), nil)
	}
}

// TestFindChanged (N1): what the view has changed is told, and is not read.
func TestFindChanged(t *testing.T) {
	v := see(has(7, "a", 2), has(7, "b", 3), has(7, "c", 4))
	v.Put(at(7, "a"), num(9))
	v.Delete(at(7, "b"))
	v.Put(at(7, "d"), num(8))
	own := v.Changes()
	found(t, "changed", v, 7, "a", 9)
	lacks(t, "changed", v, 7, "b")
	found(t, "changed", v, 7, "d", 8)
	touched(t, "changed", v, nil, own)
	found(t, "as it was", v, 7, "c", 4)
	touched(t, "as it was", v, spans(alone(7, "c")), own)
}

// TestFindCorrupt (N1): a value that says no number.
func TestFindCorrupt(t *testing.T) {
	for _, value := range texts("", "\x00", "\x02", "\x00\x00\x02", "\x00\x00\x00\x00", "\x40\x00\x00\x00", "\x40\x00\x00\x01", "\x80\x00\x00\x01", "\xff\xff\xff\xff",
		"\x00\x00\x00\x02\x00", "\x00\x00\x00\x00\x02", "\x02\x00\x00\x00\x01\x00\x00\x00\x05", "2", "abc", "abcd", many(40), many(1000)) {
		v := see(api.Pair{Key: at(7, "a"), Value: value}, has(7, "b", 2))
		finds(t, "corrupt", v, 7, "a", 0, false, api.ECorrupt)
		touched(t, "corrupt", v, spans(alone(7, "a")), nil)
		found(t, "its neighbour", v, 7, "b", 2)
		puts(t, "corrupt", v, 7, "a", 3)
		found(t, "put anew", v, 7, "a", 3)
		if value == "" || len(value) > 40 {
			continue
		}
		v = see(has(7, "a", 2))
		err(t, "Put of the view", v.Put(at(7, "a"), value), api.OK)
		finds(t, "corrupt by a change", v, 7, "a", 0, false, api.ECorrupt)
		touched(t, "corrupt by a change", v, nil, changes(api.Change{Key: at(7, "a"), Value: value}))
		drops(t, "corrupt", v, 7, "a")
		lacks(t, "dropped", v, 7, "a")
	}
	for _, ino := range []int{1, 2, 255, 256, 1 << 16, 1 << 24, 1<<30 - 1} {
		found(t, "a number", see(has(7, "a", ino)), 7, "a", ino)
	}
}

// TestPut (N1): the entry's key is changed alone, with the number's value, and nothing is read.
func TestPut(t *testing.T) {
	for i, s := range rightNames {
		for _, ino := range []int{1, 2, 256 + i, 1<<30 - 1} {
			for _, d := range []int{1, 2, 256 + i, 1<<30 - 1} {
				v := see(has(d, "other", 2), has(d, s, 77))
				puts(t, s, v, d, s, ino)
				touched(t, s, v, nil, changes(put(d, s, ino)))
				found(t, s, v, d, s, ino)
				touched(t, s, v, nil, changes(put(d, s, ino)))
			}
		}
	}
}

// TestPutSame (N1): what is put as it is already is changed all the same; several entries may tell one number, and a directory its own.
func TestPutSame(t *testing.T) {
	v := see(has(7, "a", 2))
	puts(t, "same", v, 7, "a", 2)
	touched(t, "same", v, nil, changes(put(7, "a", 2)))
	puts(t, "same", v, 7, "b", 2)
	puts(t, "same", v, 7, "c", 7)
	puts(t, "same", v, 8, "a", 2)
	touched(t, "same", v, nil, changes(put(7, "a", 2), put(7, "b", 2), put(7, "c", 7), put(8, "a", 2)))
	lists(t, "same", v, 7, "a", "b", "c")
	lists(t, "same", v, 8, "a")
}

// TestDrop (N1): the entry's key is gone, be it there or not, and nothing is read.
func TestDrop(t *testing.T) {
	for _, s := range rightNames {
		for _, d := range []int{1, 2, 300, 1<<30 - 1} {
			for _, v := range []*view.View{see(has(d, s, 5), has(d, "other", 6)), see(has(d, "other", 6)), view.New(nil)} {
				drops(t, s, v, d, s)
				touched(t, s, v, nil, changes(gone(d, s)))
				lacks(t, s, v, d, s)
				touched(t, s, v, nil, changes(gone(d, s)))
			}
		}
	}
}

// TestDropOne (N1): the others stay, those with a name that begins alike and those of other directories among them.
func TestDropOne(t *testing.T) {
	v := see(has(7, "a", 2), has(7, "ab", 3), has(7, "b", 4), has(8, "a", 5), has(6, "a", 6))
	drops(t, "one", v, 7, "a")
	touched(t, "one", v, nil, changes(gone(7, "a")))
	lists(t, "one", v, 7, "ab", "b")
	lists(t, "one", v, 8, "a")
	lists(t, "one", v, 6, "a")
	found(t, "one", v, 7, "ab", 3)
	found(t, "one", v, 8, "a", 5)
	lacks(t, "one", v, 7, "a")
}

// TestUntilDropped (N1, N2): an entry is put, put again, dropped, dropped again, and put anew, beside another one, in a view that has it from the beginning on and in one that has not.
func TestUntilDropped(t *testing.T) {
	for _, base := range [][]api.Pair{nil, {has(7, "n", 50)}} {
		v := see(append(base, has(7, "m", 60))...)
		steps := []struct {
			what string
			do   func() api.Errno
			ino  int // 0: there is none
		}{
			{"put", func() api.Errno { return dir.Put(v, 7, "n", 2) }, 2},
			{"put again", func() api.Errno { return dir.Put(v, 7, "n", 3) }, 3},
			{"dropped", func() api.Errno { return dir.Drop(v, 7, "n") }, 0},
			{"dropped again", func() api.Errno { return dir.Drop(v, 7, "n") }, 0},
			{"put anew", func() api.Errno { return dir.Put(v, 7, "n", 4) }, 4},
			{"dropped at last", func() api.Errno { return dir.Drop(v, 7, "n") }, 0},
		}
		for i, s := range steps {
			err(t, s.what, s.do(), api.OK)
			finds(t, s.what, v, 7, "n", s.ino, s.ino != 0, api.OK)
			want, change := texts("m", "n"), put(7, "n", s.ino)
			if s.ino == 0 {
				want, change = texts("m"), gone(7, "n")
			}
			if i == 0 {
				touched(t, s.what, v, nil, changes(change))
			}
			lists(t, s.what, v, 7, want...)
			touched(t, s.what, v, spans(all(7)), changes(change))
		}
	}
}
