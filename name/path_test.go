package name_test

import (
	"slices"
	"strings"
	"testing"

	"wainscot/api"
	"wainscot/name"
)

const longest = "eighteen bytes, ok" // of all names

func list(l ...string) []string { return l }

// full is ten of the longest names, and one of n bytes behind them: the path has 191 + n.
func full(n int) []string {
	return append(slices.Repeat(list(longest), 10), strings.Repeat("x", n))
}

// TestSplit (J1): paths, and texts that are none.
func TestSplit(t *testing.T) {
	hundred := slices.Repeat(list("a"), 100)
	for _, c := range []struct {
		what, path string
		want       []string
		ok         bool
	}{
		{"the chapter's example", "/a/bé", list("a", "bé"), true},
		{"the root", "/", nil, true},
		{"one name", "/a", list("a"), true},
		{"one name of eighteen bytes", "/" + longest, list(longest), true},
		{"one name of nineteen bytes", "/" + longest + "x", nil, false},
		{"the same name twice", "/a/a", list("a", "a"), true},
		{"names in any order", "/c/a/b", list("c", "a", "b"), true},
		{"names that begin with dots", "/.../.a/..a", list("...", ".a", "..a"), true},
		{"spaces", "/ / a", list(" ", " a"), true},
		{"characters of all lengths", "/a/é/日/😀/\ufffd", list("a", "é", "日", "😀", "\ufffd"), true},
		{"as many names as there can be", strings.Repeat("/a", 100), hundred, true},
		{"one more", strings.Repeat("/a", 101), nil, false},
		{"200 bytes", "/" + strings.Join(full(9), "/"), full(9), true},
		{"201 bytes", "/" + strings.Join(full(10), "/"), nil, false},
		{"200 bytes, fewer characters", strings.Repeat("/日本日本日本", 10) + "/ééé日", append(slices.Repeat(list("日本日本日本"), 10), "ééé日"), true},
		{"201 bytes, fewer characters", strings.Repeat("/日本日本日本", 10) + "/日日日a", nil, false},
		{"a great many bytes", strings.Repeat("/a", 1<<20), nil, false},
		{"a great many of /", strings.Repeat("/", 1<<20), nil, false},

		{"nothing", "", nil, false},
		{"no / ahead", "a", nil, false},
		{"no / ahead, several names", "a/b", nil, false},
		{"a space ahead", " /a", nil, false},
		{"another slash ahead", "\\a", nil, false},
		{"two of /", "//", nil, false},
		{"three of /", "///", nil, false},
		{"a / behind", "/a/", nil, false},
		{"a / behind several names", "/a/b/", nil, false},
		{"two of / ahead", "//a", nil, false},
		{"two of / between", "/a//b", nil, false},
		{"200 bytes, a / behind", "/" + strings.Join(full(8), "/") + "/", nil, false},
		{"a dot", "/.", nil, false},
		{"two dots", "/..", nil, false},
		{"a dot at first", "/./a", nil, false},
		{"a dot between", "/a/./b", nil, false},
		{"two dots in the end", "/a/..", nil, false},
		{"dots without a /", ".", nil, false},
		{"a character below U+0020", "/a/\x1f", nil, false},
		{"a nought", "/a\x00", nil, false},
		{"U+007F", "/a/\x7f/b", nil, false},
		{"a byte that begins none", "/a/\xff", nil, false},
		{"a byte that begins none, ahead", "\xff/a", nil, false},
		{"a character that is cut by a /", "/a\xc3/\xa9", nil, false},
		{"/ in two bytes", "/a\xc0\xafb", nil, false},
		{"/ in two bytes, ahead", "\xc0\xafa", nil, false},
		{"U+D800", "/\xed\xa0\x80", nil, false},
		{"the first name is none", "/" + longest + "x/a", nil, false},
		{"the name between is none", "/a/" + longest + "x/b", nil, false},
	} {
		split(t, c.what, c.path, c.want, c.ok)
		if l, ok := plainSplit(c.path); ok != c.ok || !slices.Equal(l, c.want) {
			t.Errorf("%s: the plain words say otherwise", c.what)
		}
	}
}

// TestJoin (J1): lists of names that have a path, and those that have none.
func TestJoin(t *testing.T) {
	for _, c := range []struct {
		what  string
		names []string
		want  string
		ok    bool
	}{
		{"the chapter's example", list("a", "bé"), "/a/bé", true},
		{"nil", nil, "/", true},
		{"no names", list(), "/", true},
		{"one", list("a"), "/a", true},
		{"the same twice", list("a", "a"), "/a/a", true},
		{"in any order", list("c", "a", "b"), "/c/a/b", true},
		{"the longest", list(longest), "/" + longest, true},
		{"three dots", list("...", "a"), "/.../a", true},
		{"as many as there can be", slices.Repeat(list("a"), 100), strings.Repeat("/a", 100), true},
		{"one more", slices.Repeat(list("a"), 101), "", false},
		{"200 bytes", full(9), strings.Repeat("/"+longest, 10) + "/xxxxxxxxx", true},
		{"201 bytes", full(10), "", false},
		{"199 bytes", full(8), strings.Repeat("/"+longest, 10) + "/xxxxxxxx", true},
		{"200 bytes, and an empty text", append(full(9), ""), "", false},
		{"199 bytes, and an empty text", append(full(8), ""), "", false},
		{"200 bytes, and one that is none", append(full(9), "."), "", false},
		{"a great many", slices.Repeat(list("a"), 1000000), "", false},
		{"a great many empty texts", slices.Repeat(list(""), 1000000), "", false},

		{"the empty text", list(""), "", false},
		{"two empty texts", list("", ""), "", false},
		{"the empty text behind", list("a", ""), "", false},
		{"the empty text ahead", list("", "a"), "", false},
		{"a /", list("/"), "", false},
		{"a path", list("/a"), "", false},
		{"a path without its first /", list("a/b"), "", false},
		{"a dot", list("."), "", false},
		{"two dots behind", list("a", ".."), "", false},
		{"a dot between", list("a", ".", "b"), "", false},
		{"nineteen bytes", list(longest + "x"), "", false},
		{"a text of a great many bytes", list("a", strings.Repeat("x", 1<<20)), "", false},
		{"a character below U+0020", list("a", "\x1f"), "", false},
		{"U+007F", list("\x7f", "a"), "", false},
		{"a byte that begins none", list("a", "\xff"), "", false},
		{"a character that is cut in two", list("\xc3", "\xa9"), "", false},
	} {
		join(t, c.what, c.names, c.want, c.ok)
		if s, ok := plainJoin(c.names); ok != c.ok || s != c.want {
			t.Errorf("%s: the plain words say otherwise", c.what)
		}
	}
}

// TestPathLimit (J1): paths of each length about the greatest, cut into names in several ways.
func TestPathLimit(t *testing.T) {
	for size := 1; size <= api.MaxName; size++ {
		for rest := 1; rest <= api.MaxName; rest++ {
			for _, many := range []int{180 / (size + 1), 200 / (size + 1)} {
				l := append(slices.Repeat(list(strings.Repeat("a", size)), many), strings.Repeat("b", rest))
				path := "/" + strings.Join(l, "/")
				if len(path) <= 200 {
					join(t, "a path", l, path, true)
					split(t, "a path", path, l, true)
				} else {
					join(t, "too long", l, "", false)
					split(t, "too long", path, nil, false)
				}
			}
		}
	}
}

// TestBelow (J3): paths below one another, and such as are not.
func TestBelow(t *testing.T) {
	most := "/" + strings.Join(full(9), "/")
	for _, c := range []struct {
		what, path, dir string
		want            bool
	}{
		{"an entry of it", "/a/b", "/a", true},
		{"far below", "/a/b/c/d", "/a", true},
		{"far below, several names", "/a/b/c/d", "/a/b/c", true},
		{"the other way round", "/a", "/a/b", false},
		{"a path and itself", "/a", "/a", true},
		{"a path of several names and itself", "/a/b/c", "/a/b/c", true},
		{"the root and itself", "/", "/", true},
		{"a path and the root", "/a", "/", true},
		{"a path of several names and the root", "/a/b", "/", true},
		{"the root and a path", "/", "/a", false},
		{"other names", "/a", "/b", false},
		{"another name behind the same", "/a/b", "/a/c", false},
		{"another name ahead of the same", "/a/c", "/b/c", false},
		{"the names at another place", "/a/b", "/b", false},
		{"the last name is the same", "/b/a", "/a", false},
		{"a name that begins with the same bytes", "/ab", "/a", false},
		{"a name that is the beginning of the other one", "/a", "/ab", false},
		{"such a name, and one below it", "/ab/c", "/a", false},
		{"the second name begins with the same bytes", "/a/bc", "/a/b", false},
		{"the second name begins so, with a dot", "/a/b.", "/a/b", false},
		{"characters that begin with the same bytes", "/è", "/é", false},
		{"letters small and great", "/A/b", "/a", false},
		{"one character in two ways", "/e\u0301/a", "/é", false},
		{"characters of all lengths", "/a/é/日/😀", "/a/é/日", true},
		{"dots", "/.../a", "/...", true},
		{"the longest path and itself", most, most, true},
		{"the longest path and the root", most, "/", true},
		{"the longest path and what is above it", most, strings.Repeat("/"+longest, 10), true},

		{"nothing", "", "", false},
		{"nothing and the root", "", "/", false},
		{"the root and nothing", "/", "", false},
		{"a path and nothing", "/a", "", false},
		{"a / behind the path", "/a/", "/a", false},
		{"a / behind the dir", "/a/b", "/a/", false},
		{"a / behind both", "/a/", "/a/", false},
		{"no / ahead of the path", "a/b", "/a", false},
		{"no / ahead of the dir", "/a/b", "a", false},
		{"no / ahead of either", "a/b", "a", false},
		{"two of /", "//", "/", false},
		{"two of / and themselves", "//", "//", false},
		{"two of / as the dir", "/a", "//", false},
		{"two of / between", "/a//b", "/a", false},
		{"a dot", "/a/.", "/a", false},
		{"two dots", "/a/..", "/a", false},
		{"two dots as the dir", "/a/b", "/a/..", false},
		{"a dot as the dir", "/a", "/.", false},
		{"a name that is too long", "/a/" + longest + "x", "/a", false},
		{"a path that is too long", most + "x", "/", false},
		{"a path that is too long, and itself", most + "x", most + "x", false},
		{"a dir that is too long", most, most + "x", false},
		{"no characters", "/a/\xff", "/a", false},
		{"no characters in either", "/\xff/a", "/\xff", false},
		{"a nought", "/a/\x00", "/a", false},
		{"a great many bytes", strings.Repeat("/a", 1<<20), "/a", false},
	} {
		if got := name.Below(c.path, c.dir); got != c.want {
			t.Errorf("%s: Below of %q, %q: %v", c.what, c.path, c.dir, got)
		}
		if plainBelow(c.path, c.dir) != c.want {
			t.Errorf("%s: the plain words say otherwise", c.what)
		}
	}
}

// TestBelowBegins (J3): of all short paths, those that are below one begin with it, byte by byte, and just those with a / or nothing behind that are.
func TestBelowBegins(t *testing.T) {
	each := list("/")
	for at := 0; at < len(each) && len(each) < 300; at++ {
		for _, n := range list("a", "ab", "b", "a.") {
			each = append(each, strings.TrimSuffix(each[at], "/")+"/"+n)
		}
	}
	for _, path := range each {
		for _, dir := range each {
			behind, begins := strings.CutPrefix(path, dir)
			want := begins && (dir == "/" || behind == "" || behind[0] == '/')
			if got := name.Below(path, dir); got != want {
				t.Errorf("Below of %q, %q: %v", path, dir, got)
			}
		}
	}
}
