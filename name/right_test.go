package name_test

import (
	"strings"
	"testing"

	"wainscot/name"
)

// TestRight (J1): names, and texts that are none.
func TestRight(t *testing.T) {
	for _, c := range []struct {
		what, s string
		want    bool
	}{
		{"the empty text", "", false},
		{"one byte", "a", true},
		{"a number", "0", true},
		{"a space", " ", true},
		{"spaces at both ends", " a ", true},
		{"eighteen bytes", "eighteen bytes, ok", true},
		{"nineteen bytes", "nineteen bytes, yes", false},
		{"seventeen bytes", strings.Repeat("x", 17), true},
		{"a great many bytes", strings.Repeat("x", 1<<20), false},
		{"eighteen bytes, nine characters", strings.Repeat("é", 9), true},
		{"nineteen bytes, ten characters", strings.Repeat("é", 9) + "a", false},
		{"twenty bytes, ten characters", strings.Repeat("é", 10), false},
		{"eighteen bytes, six characters", strings.Repeat("日", 6), true},
		{"nineteen bytes, seven characters", strings.Repeat("日", 6) + "a", false},
		{"eighteen bytes, five characters", strings.Repeat("😀", 4) + "é", true},
		{"twenty bytes, five characters", strings.Repeat("😀", 5), false},
		{"the nineteenth byte ends a character", strings.Repeat("a", 17) + "é", false},
		{"a dot", ".", false},
		{"two dots", "..", false},
		{"three dots", "...", true},
		{"eighteen dots", strings.Repeat(".", 18), true},
		{"a dot ahead", ".a", true},
		{"two dots ahead", "..a", true},
		{"a dot behind", "a.", true},
		{"two dots behind", "a..", true},
		{"a dot and a space", ". ", true},
		{"a dot between", "a.b", true},
		{"one character that looks like dots", "…", true},
		{"a /", "/", false},
		{"a / ahead", "/a", false},
		{"a / between", "a/b", false},
		{"a / behind", "a/", false},
		{"below /", "a.b", true},
		{"above /", "a0b", true},
		{"another slash", "a\\b", true},
		{"a slash that is another character", "a\u2215b", true},
		{"a nought", "\x00", false},
		{"a nought between", "a\x00b", false},
		{"a nought behind", "a\x00", false},
		{"a line's end", "a\n", false},
		{"a tab", "\ta", false},
		{"U+001F", "a\x1f", false},
		{"U+0020", "a\x20", true},
		{"U+007E", "a\x7e", true},
		{"U+007F", "a\x7f", false},
		{"U+007F between", "a\x7fb", false},
		{"U+0080", "a\u0080", true},
		{"U+0085, a line's end", "\u0085", true},
		{"U+009F", "\u009f", true},
		{"U+00A0", "\u00a0", true},
		{"U+2028, a line's end", "\u2028", true},
		{"U+FEFF, the mark of an order", "\ufeff", true},
		{"U+FFFD itself", "\ufffd", true},
		{"U+FFFD among others", "a\ufffdb", true},
		{"U+FFFD as often as it fits", strings.Repeat("\ufffd", 6), true},
		{"U+FFFD and a byte that begins none", "\ufffd\xff", false},
		{"a byte that begins none, and U+FFFD", "\xff\ufffd", false},
		{"U+FFFD, cut", "\xef\xbf", false},
		{"U+FFFE", "\ufffe", true},
		{"U+FFFF", "\uffff", true},
		{"U+10FFFF", "\U0010ffff", true},
		{"U+110000", "\xf4\x90\x80\x80", false},
		{"U+13FFFF", "\xf4\xbf\xbf\xbf", false},
		{"above U+13FFFF", "\xf5\x80\x80\x80", false},
		{"U+D7FF", "\xed\x9f\xbf", true},
		{"U+D800", "\xed\xa0\x80", false},
		{"U+DBFF", "\xed\xaf\xbf", false},
		{"U+DC00", "\xed\xb0\x80", false},
		{"U+DFFF", "\xed\xbf\xbf", false},
		{"U+E000", "\xee\x80\x80", true},
		{"two halves of U+1F600", "\xed\xa0\xbd\xed\xb8\x80", false},
		{"U+007F in two bytes", "\xc1\xbf", false},
		{"a nought in two bytes", "\xc0\x80", false},
		{"/ in two bytes", "a\xc0\xafb", false},
		{"/ in three bytes", "a\xe0\x80\xafb", false},
		{"/ in four bytes", "a\xf0\x80\x80\xafb", false},
		{". in two bytes", "\xc0\xae", false},
		{"U+07FF in three bytes", "\xe0\x9f\xbf", false},
		{"U+FFFF in four bytes", "\xf0\x8f\xbf\xbf", false},
		{"U+FFFD in four bytes", "\xf0\x8f\xbf\xbd", false},
		{"five bytes", "\xf8\x88\x80\x80\x80", false},
		{"six bytes", "\xfc\x84\x80\x80\x80\x80", false},
		{"two bytes, cut", "a\xc3", false},
		{"two bytes, cut, and another character", "\xc3a", false},
		{"three bytes, cut to two", "a\xe6\x97", false},
		{"three bytes, cut to one", "a\xe6", false},
		{"four bytes, cut to three", "\xf0\x9f\x98", false},
		{"four bytes, cut, and another character", "\xf0\x9f\x98a", false},
		{"four bytes, cut, and the same again", "\xf0\x9f\x98\xf0\x9f\x98\x80", false},
		{"a byte that goes on with none", "\x80", false},
		{"a byte that goes on too far", "é\xa9", false},
		{"a byte that begins none", "\xff", false},
		{"a byte that begins none, in the end", "abc\xfe", false},
		{"a byte that begins none, as the eighteenth", strings.Repeat("a", 17) + "\xff", false},
		{"characters of all lengths", "aé日😀", true},
	} {
		right(t, c.what, c.s, c.want)
		if plainRight(c.s) != c.want {
			t.Errorf("%s: the plain words say otherwise", c.what)
		}
	}
}

// TestEachCharacter (J1, J2): each number that four bytes can hold, in each number of bytes that can: it is a character in the least of them alone.
func TestEachCharacter(t *testing.T) {
	for r := range 1 << 21 {
		for n := 1; n <= 4; n++ {
			if r >= []int{1 << 8, 1 << 11, 1 << 16, 1 << 21}[n-1] {
				continue
			}
			s := inBytes(r, n)
			well := least(r) == n
			want := well && r >= 0x20 && r != '/' && r != 0x7f && r != '.'
			if name.Right(s) != want || name.Right("a"+s+"b") != (want || s == ".") {
				t.Errorf("U+%04X in %d bytes: Right: %v, between others: %v", r, n, name.Right(s), name.Right("a"+s+"b"))
			}
			width := 1
			if !well {
				width = n
			}
			if got := name.Width("a" + s + "b"); got != width+2 {
				t.Errorf("U+%04X in %d bytes: Width between two others: %d", r, n, got)
			}
		}
		if t.Failed() {
			return
		}
	}
}

// TestEachCut (J1, J2): of each first and last character of a length, and its neighbours, what is cut at either end is no character: its bytes are pieces of their own.
func TestEachCut(t *testing.T) {
	for _, r := range []int{0x80, 0x81, 0x7fe, 0x7ff, 0x800, 0x801, 0xd7ff, 0xe000, 0xfffd, 0xffff, 0x10000, 0x10001, 0xfffff, 0x100000, 0x10fffe, 0x10ffff} {
		s := inBytes(r, least(r))
		right(t, "whole", s, true)
		for cut := 1; cut < len(s); cut++ {
			for _, c := range []string{s[:cut], s[cut:]} {
				var single []string
				for _, b := range []byte(c) {
					single = append(single, string([]byte{b}))
				}
				right(t, "cut", c, false)
				right(t, "cut, others around it", "a"+c+"b", false)
				pieces(t, "cut", c, single)
				pieces(t, "cut, then whole", c+s, append(single, s))
			}
		}
	}
}
