package name_test

import (
	"slices"
	"strings"
	"testing"

	"wainscot/api"
	"wainscot/name"
)

// What a name, a path and a piece are, written out from the chapter's words, without the library's own UTF-8.

// inBytes is a number in so many bytes, as UTF-8 lays its bits, be it a character or not, and be these bytes too many or not.
func inBytes(r, n int) string {
	if n == 1 {
		return string([]byte{byte(r)})
	}
	b := make([]byte, n)
	for i := n - 1; i > 0; i-- {
		b[i] = 0x80 | byte(r&0x3f)
		r >>= 6
	}
	b[0] = []byte{0xc0, 0xe0, 0xf0}[n-2] | byte(r)
	return string(b)
}

// least is in how many bytes a character is written well; 0, if it is none.
func least(r int) int {
	switch {
	case r < 0, r >= 0xd800 && r <= 0xdfff, r > 0x10ffff:
		return 0
	case r < 0x80:
		return 1
	case r < 0x800:
		return 2
	case r < 0x10000:
		return 3
	}
	return 4
}

// character is the one that s begins with, written well, and in how many bytes; 0, if there is none.
func character(s string) (r, n int) {
	for n := 1; n <= 4 && n <= len(s); n++ {
		r := int(s[0])
		if n > 1 {
			r &= 0x7f >> n
		}
		for _, b := range []byte(s[1:n]) {
			r = r<<6 | int(b&0x3f)
		}
		if least(r) == n && inBytes(r, n) == s[:n] {
			return r, n
		}
	}
	return 0, 0
}

func plainPieces(s string) []string {
	var l []string
	for len(s) > 0 {
		_, n := character(s)
		n = max(n, 1)
		l = append(l, s[:n])
		s = s[n:]
	}
	return l
}

func plainRight(s string) bool {
	if len(s) < 1 || len(s) > 18 || s == "." || s == ".." {
		return false
	}
	for _, p := range plainPieces(s) {
		r, n := character(p)
		if n == 0 || r == '/' || r < 0x20 || r == 0x7f {
			return false
		}
	}
	return true
}

// plainSplit takes name by name, each with a / ahead of it.
func plainSplit(path string) ([]string, bool) {
	if path == "/" {
		return nil, true
	}
	if path == "" || len(path) > 200 {
		return nil, false
	}
	var l []string
	for len(path) > 0 {
		if path[0] != '/' {
			return nil, false
		}
		end := 1
		for end < len(path) && path[end] != '/' {
			end++
		}
		if !plainRight(path[1:end]) {
			return nil, false
		}
		l = append(l, path[1:end])
		path = path[end:]
	}
	return l, true
}

func plainJoin(names []string) (string, bool) {
	path := "/" + strings.Join(names, "/")
	for _, n := range names {
		if !plainRight(n) {
			return "", false
		}
	}
	if len(path) > 200 {
		return "", false
	}
	return path, true
}

func plainShort(s string, n int) string {
	l := plainPieces(s)
	switch {
	case n < 1:
		return ""
	case len(l) <= n:
		return s
	}
	return strings.Join(l[:n-1], "") + "\xe2\x80\xa6"
}

func plainBelow(path, dir string) bool {
	l, ok := plainSplit(path)
	above, okAbove := plainSplit(dir)
	if !ok || !okAbove || len(above) > len(l) {
		return false
	}
	for i, n := range above {
		if n != l[i] {
			return false
		}
	}
	return true
}

// right asks for what Right must answer of s, and for what follows of the path that has that name alone.
func right(t *testing.T, what, s string, want bool) {
	t.Helper()
	if got := name.Right(s); got != want {
		t.Errorf("%s: Right of %q: %v; want %v", what, s, got, want)
	}
	path, ok := name.Join([]string{s})
	if ok != want || want && path != "/"+s || !want && path != "" {
		t.Errorf("%s: Join of %q alone: %q, %v", what, s, path, ok)
	}
}

// split asks for what Split must answer of path, and of names that there are for Join, too.
func split(t *testing.T, what, path string, want []string, wantOk bool) {
	t.Helper()
	got, ok := name.Split(path)
	if !slices.Equal(got, want) || ok != wantOk {
		t.Errorf("%s: Split of %q: %q, %v; want %q, %v", what, path, got, ok, want, wantOk)
	}
	if again, ok := name.Join(got); wantOk && (again != path || !ok) {
		t.Errorf("%s: Join of Split of %q: %q, %v", what, path, again, ok)
	}
}

// join asks for what Join must answer of names, and of a path for Split, too.
func join(t *testing.T, what string, names []string, want string, wantOk bool) {
	t.Helper()
	got, ok := name.Join(names)
	if got != want || ok != wantOk {
		t.Errorf("%s: Join: %q, %v; want %q, %v", what, got, ok, want, wantOk)
	}
	if again, ok := name.Split(got); wantOk && (!slices.Equal(again, names) || !ok) {
		t.Errorf("%s: Split of Join: %q, %v", what, again, ok)
	}
}

// pieces asks for the pieces of s: Width, and Short of each number that matters.
func pieces(t *testing.T, what, s string, want []string) {
	t.Helper()
	if got := name.Width(s); got != len(want) {
		t.Errorf("%s: Width of %q: %d; want %d", what, s, got, len(want))
	}
	for n := -1; n <= len(want)+2; n++ {
		short := ""
		switch {
		case n >= len(want):
			short = s
		case n > 0:
			short = strings.Join(want[:n-1], "") + "…"
		}
		got := name.Short(s, n)
		if got != short {
			t.Errorf("%s: Short of %q, %d: %q; want %q", what, s, n, got, short)
		}
		if w := name.Width(got); w != min(max(n, 0), len(want)) {
			t.Errorf("%s: Short of %q, %d: a width of %d", what, s, n, w)
		}
		if again := name.Short(got, n); again != got {
			t.Errorf("%s: Short of %q, %d, and again: %q", what, s, n, again)
		}
	}
}

// all asks for all of J1 and J2 of one text, as the plain words have it.
func all(t *testing.T, s string) {
	t.Helper()
	right(t, "plain", s, plainRight(s))
	l, ok := plainSplit(s)
	split(t, "plain", s, l, ok)
	pieces(t, "plain", s, plainPieces(s))
}

// TestPlainWords holds the plain words themselves against a few that are sure.
func TestPlainWords(t *testing.T) {
	for r, want := range map[int]string{'a': "a", 0xe9: "é", 0x65e5: "日", 0x1f600: "😀", 0xfffd: "\xef\xbf\xbd"} {
		if got := inBytes(r, least(r)); got != want {
			t.Errorf("U+%04X is %q; want %q", r, got, want)
		}
		if got, n := character(want + "x"); got != r || n != len(want) {
			t.Errorf("%q is U+%04X in %d bytes", want, got, n)
		}
	}
	if api.MaxName != 18 || api.MaxPath != 200 {
		t.Error("the limits are others")
	}
}

// edgeBytes is both ends of each range of bytes that UTF-8 tells apart, and of each that names do.
func edgeBytes() []byte {
	return []byte{0x00, 0x1f, 0x20, '.', '/', '0', 'a', 0x7e, 0x7f, 0x80, 0x8f, 0x90, 0x9f, 0xa0, 0xa6, 0xbf, 0xc0, 0xc1, 0xc2, 0xdf, 0xe0, 0xe2, 0xec, 0xed, 0xee, 0xef, 0xf0, 0xf1, 0xf3, 0xf4, 0xf5, 0xf8, 0xff}
}

// TestAllShortTexts (J1, J2): all texts of at most two bytes, and of three and four of those at the edges, against the plain words.
func TestAllShortTexts(t *testing.T) {
	all(t, "")
	for a := range 256 {
		all(t, string([]byte{byte(a)}))
		for b := range 256 {
			all(t, string([]byte{byte(a), byte(b)}))
		}
	}
	edges := edgeBytes()
	for _, a := range edges {
		for _, b := range edges {
			for _, c := range edges {
				all(t, string([]byte{a, b, c}))
				for _, d := range edges {
					s := string([]byte{a, b, c, d})
					if got := name.Right(s); got != plainRight(s) {
						t.Errorf("Right of %q: %v", s, got)
					}
					if got, want := name.Width(s), len(plainPieces(s)); got != want {
						t.Errorf("Width of %q: %d; want %d", s, got, want)
					}
					if got, want := name.Short(s, 2), plainShort(s, 2); got != want {
						t.Errorf("Short of %q, 2: %q; want %q", s, got, want)
					}
				}
			}
			if t.Failed() {
				return
			}
		}
	}
}

// dice is numbers that look thrown, the same ones each time.
type dice uint32

func (d *dice) below(n int) int {
	*d = *d*1664525 + 1013904223
	return int(uint32(*d)>>8) % n
}

// thrown is a text of so many of these parts.
func (d *dice) thrown(n int, parts []string) string {
	s := ""
	for range n {
		s += parts[d.below(len(parts))]
	}
	return s
}

// TestLongTexts (J1, J2, J3): long texts, most of them paths or nearly so, against the plain words.
func TestLongTexts(t *testing.T) {
	d := dice(10)
	wild := []string{"/", "/", ".", "a", "é", "日", "😀", "\ufffd", "…", "\x1f", "\x7f", "\xff", "\xe2\x80", "\xe2", "\xc0\xaf", "\xed\xa0\x80", "\xf4\x90\x80\x80"}
	tame := []string{"/a", "/b", "/.", "/..", "/...", "b", "é", "日本", "/😀"}
	paths := 0
	for range 20000 {
		s := d.thrown(d.below(30), wild)
		all(t, s)
		path, dir := "/a"+d.thrown(d.below(12), tame[d.below(5):]), d.thrown(d.below(3), tame)
		all(t, path)
		if plainBelow(path, dir) {
			paths++
		}
		for _, of := range []string{dir, path[:d.below(len(path)+1)], path, s, "/"} {
			if got, want := name.Below(path, of), plainBelow(path, of); got != want {
				t.Errorf("Below of %q, %q: %v", path, of, got)
			}
			if got, want := name.Below(of, path), plainBelow(of, path); got != want {
				t.Errorf("Below of %q, %q: %v", of, path, got)
			}
		}
		if t.Failed() {
			return
		}
	}
	if paths < 100 {
		t.Errorf("of all that was thrown only %d are below one another", paths)
	}
}

// TestLongLists (J1): lists of names, of which some are none, and whose paths are about as long as a path may be, against the plain words.
func TestLongLists(t *testing.T) {
	d := dice(11)
	fits := 0
	for range 20000 {
		var l []string
		for range 8 + d.below(20) {
			n := strings.Repeat("a", 1+d.below(18))
			if d.below(150) == 0 {
				n = []string{"", ".", "..", "a/b", "\xff", "nineteen bytes, yes"}[d.below(6)]
			}
			l = append(l, n)
		}
		want, ok := plainJoin(l)
		join(t, "thrown", l, want, ok)
		if ok {
			fits++
		}
		if t.Failed() {
			return
		}
	}
	if fits < 1000 || fits > 19000 {
		t.Errorf("of all that was thrown %d have a path", fits)
	}
}
