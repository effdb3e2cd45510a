package name_test

import (
	"math"
	"slices"
	"strings"
	"testing"

	"wainscot/name"
)

// TestPieces (J2): texts and their pieces; Width, and Short of each number of pieces.
func TestPieces(t *testing.T) {
	for _, c := range []struct {
		what, s string
		want    []string
	}{
		{"nothing", "", nil},
		{"one", "a", list("a")},
		{"four", "abcd", list("a", "b", "c", "d")},
		{"characters of all lengths", "aé日😀", list("a", "é", "日", "😀")},
		{"the same, falling", "😀日éa", list("😀", "日", "é", "a")},
		{"first and last of each length", "\x00\x7f\u0080\u07ff\u0800\uffff\U00010000\U0010ffff", list("\x00", "\x7f", "\u0080", "\u07ff", "\u0800", "\uffff", "\U00010000", "\U0010ffff")},
		{"what no name has", "/\n\x7f", list("/", "\n", "\x7f")},
		{"one character in two ways", "ée\u0301", list("é", "e", "\u0301")},
		{"the mark itself", "a…b", list("a", "…", "b")},
		{"marks alone", "……", list("…", "…")},
		{"U+FFFD", "\ufffd\ufffda", list("\ufffd", "\ufffd", "a")},
		{"U+FFFD, and a byte that begins none", "\ufffd\xff\ufffd", list("\ufffd", "\xff", "\ufffd")},
		{"bytes that begin none", "\xff\xfe\xff", list("\xff", "\xfe", "\xff")},
		{"a byte that begins none among others", "日本\xffd", list("日", "本", "\xff", "d")},
		{"bytes that go on with none", "\x80\xbfa\x80", list("\x80", "\xbf", "a", "\x80")},
		{"a character and a byte too many", "é\xa9", list("é", "\xa9")},
		{"two bytes, cut", "\xc3", list("\xc3")},
		{"two bytes, cut by another", "\xc3a", list("\xc3", "a")},
		{"three bytes, cut", "\xe6\x97", list("\xe6", "\x97")},
		{"three bytes, cut by the same", "\xe6\x97日", list("\xe6", "\x97", "日")},
		{"four bytes, cut", "a\xf0\x9f\x98", list("a", "\xf0", "\x9f", "\x98")},
		{"four bytes, cut by another", "\xf0\x9f\x98é", list("\xf0", "\x9f", "\x98", "é")},
		{"the mark, cut", "a\xe2\x80", list("a", "\xe2", "\x80")},
		{"the mark, cut ahead", "\x80\xa6a", list("\x80", "\xa6", "a")},
		{"the mark's first byte as often as you like", "\xe2\xe2\xe2", list("\xe2", "\xe2", "\xe2")},
		{"U+D7FF and U+E000", "\ud7ff\ue000", list("\ud7ff", "\ue000")},
		{"U+D800", "\xed\xa0\x80", list("\xed", "\xa0", "\x80")},
		{"U+DFFF", "\xed\xbf\xbf", list("\xed", "\xbf", "\xbf")},
		{"U+110000", "\xf4\x90\x80\x80", list("\xf4", "\x90", "\x80", "\x80")},
		{"a in two bytes", "\xc1\xa1", list("\xc1", "\xa1")},
		{"é in three bytes", "\xe0\x83\xa9", list("\xe0", "\x83", "\xa9")},
		{"日 in four bytes", "\xf0\x86\x97\xa5", list("\xf0", "\x86", "\x97", "\xa5")},
		{"five bytes", "\xf8\x88\x80\x80\x80", list("\xf8", "\x88", "\x80", "\x80", "\x80")},
	} {
		pieces(t, c.what, c.s, c.want)
		if !slices.Equal(plainPieces(c.s), c.want) {
			t.Errorf("%s: the plain words say otherwise", c.what)
		}
	}
}

// TestShort (J2): what is cut, and what is not, written out.
func TestShort(t *testing.T) {
	for _, c := range []struct {
		what, s string
		n       int
		want    string
	}{
		{"the chapter's example", "abcd", 3, "ab…"},
		{"as many", "abcd", 4, "abcd"},
		{"one more than there are", "abcd", 5, "abcd"},
		{"two", "abcd", 2, "a…"},
		{"one", "abcd", 1, "…"},
		{"none", "abcd", 0, ""},
		{"below none", "abcd", -1, ""},
		{"the least number", "abcd", math.MinInt, ""},
		{"the greatest number", "abcd", math.MaxInt, "abcd"},
		{"one piece, one", "a", 1, "a"},
		{"one piece of several bytes, one", "日", 1, "日"},
		{"one piece, none", "a", 0, ""},
		{"two pieces, one", "ab", 1, "…"},
		{"nothing, one", "", 1, ""},
		{"nothing, none", "", 0, ""},
		{"nothing, below none", "", -1, ""},
		{"nothing, the least number", "", math.MinInt, ""},
		{"nothing, the greatest number", "", math.MaxInt, ""},
		{"pieces, not bytes", "日本語", 3, "日本語"},
		{"pieces, not bytes, cut", "日本語", 2, "日…"},
		{"no characters", "\xff\xfe\xfd", 3, "\xff\xfe\xfd"},
		{"no characters, cut", "\xff\xfe\xfd", 2, "\xff…"},
		{"a character that is cut is several pieces", "\xf0\x9f\x98", 2, "\xf0…"},
		{"the mark is a piece as others are", "ab…", 3, "ab…"},
		{"the mark is cut off", "ab…", 2, "a…"},
		{"U+FFFD stays what it is", "\ufffd\xffab", 3, "\ufffd\xff…"},
		{"no bytes are made good", "\xed\xa0\x80a", 4, "\xed\xa0\x80a"},
	} {
		if got := name.Short(c.s, c.n); got != c.want {
			t.Errorf("%s: Short of %q, %d: %q; want %q", c.what, c.s, c.n, got, c.want)
		}
		if plainShort(c.s, c.n) != c.want {
			t.Errorf("%s: the plain words say otherwise", c.what)
		}
	}
}

// TestManyPieces (J2): texts of a great many bytes.
func TestManyPieces(t *testing.T) {
	const n = 1 << 20
	for _, piece := range list("a", "é", "日", "😀", "\xff", "\xe2") {
		s := strings.Repeat(piece, n)
		if got := name.Width(s); got != n {
			t.Errorf("Width of so many of %q: %d", piece, got)
		}
		if name.Short(s, n) != s {
			t.Errorf("Short of so many of %q is not all of it", piece)
		}
		if name.Short(s, n-1) != s[:len(piece)*(n-2)]+"…" {
			t.Errorf("Short of one too many of %q", piece)
		}
	}
}
