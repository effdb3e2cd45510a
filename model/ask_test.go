package model_test

import (
	"slices"
	"strings"
	"testing"

	"wainscot/api"
	"wainscot/model"
)

// TestNew (New): there is the root, and nothing else.
func TestNew(t *testing.T) {
	m := model.New()
	stats(t, m, "/", dirStat())
	lists(t, m, "/")
	lacks(t, m, "/a", "/ ")
	is(t, "new", m, "\"/\" error 0 {true 0 0}\n")
}

// TestExamples (O1): the chapter's examples.
func TestExamples(t *testing.T) {
	m := made(t, create("/a"), write("/a", 2, "x"))
	replies(t, m, read("/a", 0, 9), api.Reply{Data: "\x00\x00x"})
	done(t, m, mkdir("/d"))
	refused(t, m, rename("/d", "/d/e"), api.EArg)
}

// TestStat (OpStat): Dir of directories, links and bytes of files.
func TestStat(t *testing.T) {
	m := yard(t)
	for _, p := range texts("/", "/d", "/d/e", "/d/k", "/e") {
		stats(t, m, p, dirStat())
	}
	stats(t, m, "/d/f", file(1, 5))
	stats(t, m, "/f", file(2, 6))
	stats(t, m, "/d/l", file(2, 6))
	stats(t, m, "/o", file(1, 0))
	stats(t, m, "/d/k/x", file(1, 0))
	lacks(t, m, "/x", "/d/x", "/d/k/f", "/F", "/ff", "/e/f", "/d ")
}

// TestStatFollows (OpStat): what is told goes with what is done.
func TestStatFollows(t *testing.T) {
	m := made(t, create("/a"))
	for _, c := range []struct {
		o    api.Op
		want api.Stat
	}{
		{write("/a", 0, "abc"), file(1, 3)},
		{write("/a", 1, "x"), file(1, 3)},
		{link("/a", "/b"), file(2, 3)},
		{write("/b", 9, "z"), file(2, 10)},
		{truncate("/b", 4), file(2, 4)},
		{link("/b", "/c"), file(3, 4)},
		{unlink("/b"), file(2, 4)},
		{truncate("/c", most), file(2, most)},
		{unlink("/c"), file(1, most)},
		{mkdir("/c"), file(1, most)},
		{write("/a", 0, ""), file(1, most)},
		{truncate("/a", 0), file(1, 0)},
	} {
		done(t, m, c.o)
		stats(t, m, "/a", c.want)
	}
}

// risingNames is names in their order, byte by byte.
var risingNames = texts(" ", "!", "-", "...", "..a", ".a", "0", "1", "10", "2", "A", "B", "Z", "a", "a ", "a!", "a.", "aB", "aa", "aaaaaaaaaaaaaaaaaa", "ab", "b", "e\u0301", "z", "~", "\u0080", "é", "ÿ", "Ā", "日", "\ufffd", "\uffff", "😀")

// TestListOrder (OpList): names rise byte by byte, in whatever order they were made, whatever they are names of.
func TestListOrder(t *testing.T) {
	back := slices.Clone(risingNames)
	slices.Reverse(back)
	mixed := slices.Clone(risingNames)
	slices.SortFunc(mixed, func(a, b string) int { return strings.Compare(a[len(a)-1:]+a, b[len(b)-1:]+b) })
	for _, order := range [][]string{risingNames, back, mixed} {
		for dir, ahead := range map[string]string{"/": "/", "/b": "/b/"} {
			m := made(t, mkdir("/b"))
			for i, n := range order {
				switch {
				case ahead+n == "/b":
				case i%3 == 0:
					done(t, m, mkdir(ahead+n), mkdir(ahead+n+"/below"))
				case i%3 == 1:
					done(t, m, create(ahead+n))
				default:
					done(t, m, create("/b/other"), rename("/b/other", ahead+n))
				}
			}
			lists(t, m, dir, risingNames...)
		}
	}
}

// TestList (OpList): the entries of the one directory, not those of others, nor those below.
func TestList(t *testing.T) {
	m := yard(t)
	lists(t, m, "/", "d", "e", "f", "o")
	lists(t, m, "/d", "e", "f", "k", "l")
	lists(t, m, "/d/k", "x")
	lists(t, m, "/d/e")
	lists(t, m, "/e")
	done(t, m, unlink("/d/k/x"), rename("/o", "/d/k/y"), rename("/d/e", "/d/k/z"))
	lists(t, m, "/", "d", "e", "f")
	lists(t, m, "/d", "f", "k", "l")
	lists(t, m, "/d/k", "y", "z")
	done(t, m, rename("/d/k", "/e"))
	lists(t, m, "/e", "y", "z")
	lists(t, m, "/d", "f", "l")
}

// TestRead (OpRead): N bytes from Off on, or as many as there are.
func TestRead(t *testing.T) {
	m := made(t, create("/f"), write("/f", 0, "hello"), create("/o"))
	for _, c := range []struct {
		off, n int
		want   string
	}{
		{0, 5, "hello"}, {0, 4, "hell"}, {0, 6, "hello"}, {0, once, "hello"}, {0, 1, "h"}, {0, 0, ""},
		{1, 3, "ell"}, {1, 4, "ello"}, {1, 5, "ello"}, {4, 1, "o"}, {4, 2, "o"}, {4, once, "o"}, {3, 0, ""},
		{5, 0, ""}, {5, 1, ""}, {5, once, ""}, {6, 1, ""}, {once, once, ""}, {most, 1, ""}, {most, once, ""}, {most + 1, once, ""}, {2 * most, 1, ""},
		{huge, 0, ""}, {huge, 1, ""}, {huge, once, ""}, {huge - once, once, ""}, {huge - 1, 2, ""},
	} {
		replies(t, m, read("/f", c.off, c.n), api.Reply{Data: c.want})
		replies(t, m, read("/o", c.off, c.n), api.Reply{})
	}
}

// TestReadLong (OpRead): of a long file, at all edges of its pages, and of its end.
func TestReadLong(t *testing.T) {
	m := made(t, create("/f"))
	var b strings.Builder
	for b.Len() < 3*once+100 {
		b.WriteString(string(rune('a' + b.Len()%23)))
	}
	all := b.String()
	for off := 0; off < len(all); off += 1000 {
		done(t, m, write("/f", off, all[off:min(off+1000, len(all))]))
	}
	for _, off := range []int{0, 1, 999, 1000, once - 1, once, once + 1, 2*once - 1, 2 * once, 3*once - 1, 3 * once, 3*once + 99, 3*once + 100, 3*once + 101, 4 * once} {
		for _, n := range []int{0, 1, 2, 99, 100, 101, once - 1, once} {
			from := min(off, len(all))
			replies(t, m, read("/f", off, n), api.Reply{Data: all[from:min(from+n, len(all))]})
		}
	}
}

// TestReadChangesNothing (OpStat, OpList, OpRead): who asks changes nothing, and is answered the same again.
func TestReadChangesNothing(t *testing.T) {
	m := yard(t)
	was := whole(m)
	for range 3 {
		replies(t, m, read("/f", 3, 9), api.Reply{Data: "abc"})
		replies(t, m, read("/f", 100, 9), api.Reply{})
		lists(t, m, "/d", "e", "f", "k", "l")
		stats(t, m, "/f", file(2, 6))
		lacks(t, m, "/n")
		is(t, "asked", m, was)
	}
}
