package inode_test

import (
	"strings"
	"testing"

	"wainscot/api"
	"wainscot/inode"
)

// What the values are, written out from the chapter's words, without package pack.

func dir(links, size int) api.Inode { return api.Inode{Dir: true, Links: links, Size: size} }

func file(links, size int) api.Inode { return api.Inode{Links: links, Size: size} }

// word is the lowest 32 bits of a number, the highest byte first.
func word(v int) string {
	return string([]byte{byte(v >> 24), byte(v >> 16), byte(v >> 8), byte(v)})
}

// unword is the number of four bytes.
func unword(s string) int {
	return int(s[0])<<24 | int(s[1])<<16 | int(s[2])<<8 | int(s[3])
}

func plainValue(n api.Inode) (string, bool) {
	switch {
	case n.Dir && n.Links == 0 && n.Size == 0:
		return "\x01", true
	case n.Dir || n.Links < 1 || n.Links > 65535 || n.Size < 0 || n.Size > 1048576:
		return "", false
	}
	return "\x02" + word(n.Links) + word(n.Size), true
}

// plainOf looks at the bytes of v where they stand.
func plainOf(v string) (api.Inode, bool) {
	if len(v) == 1 && v[0] == 1 {
		return dir(0, 0), true
	}
	if len(v) != 9 || v[0] != 2 {
		return api.Inode{}, false
	}
	links, size := unword(v[1:5]), unword(v[5:9])
	if links == 0 || links > 0xffff || size > 0x100000 {
		return api.Inode{}, false
	}
	return file(links, size), true
}

func plainNumber(ino int) (string, bool) {
	if ino < 1 || ino > 1073741823 {
		return "", false
	}
	return word(ino), true
}

func plainNumbered(v string) (int, bool) {
	if len(v) != 4 || v == "\x00\x00\x00\x00" || v[0] >= 0x40 {
		return 0, false
	}
	return unword(v), true
}

// plainTrim takes noughts away, one by one.
func plainTrim(b string) string {
	if len(b) > 32 {
		b = b[:32]
	}
	for b != "" && b[len(b)-1] == 0 {
		b = b[:len(b)-1]
	}
	return b
}

// plainFull lays v over 32 noughts.
func plainFull(v string) string {
	var b [32]byte
	copy(b[:], v)
	return string(b[:])
}

// value asks for what Value must answer of n, and Of of it.
func value(t *testing.T, what string, n api.Inode, want string, wantOk bool) {
	t.Helper()
	got, ok := inode.Value(n)
	if got != want || ok != wantOk {
		t.Errorf("%s: Value of %v: %x, %v; want %x, %v", what, n, got, ok, want, wantOk)
	}
	if again, ok := inode.Of(got); ok != wantOk || wantOk && again != n {
		t.Errorf("%s: Of of Value of %v: %v, %v", what, n, again, ok)
	}
}

// of asks for what Of must answer of v, and Value of it.
func of(t *testing.T, what, v string, want api.Inode, wantOk bool) {
	t.Helper()
	got, ok := inode.Of(v)
	if got != want || ok != wantOk {
		t.Errorf("%s: Of of %s: %v, %v; want %v, %v", what, tell(v), got, ok, want, wantOk)
	}
	if again, ok := inode.Value(got); ok != wantOk || wantOk && again != v {
		t.Errorf("%s: Value of Of of %s: %x, %v", what, tell(v), again, ok)
	}
}

// number asks for what Number must answer of ino, and Numbered of it.
func number(t *testing.T, what string, ino int, want string, wantOk bool) {
	t.Helper()
	got, ok := inode.Number(ino)
	if got != want || ok != wantOk {
		t.Errorf("%s: Number of %d: %x, %v; want %x, %v", what, ino, got, ok, want, wantOk)
	}
	if again, ok := inode.Numbered(got); ok != wantOk || wantOk && again != ino {
		t.Errorf("%s: Numbered of Number of %d: %d, %v", what, ino, again, ok)
	}
}

// numbered asks for what Numbered must answer of v, and Number of it.
func numbered(t *testing.T, what, v string, want int, wantOk bool) {
	t.Helper()
	got, ok := inode.Numbered(v)
	if got != want || ok != wantOk {
		t.Errorf("%s: Numbered of %s: %d, %v; want %d, %v", what, tell(v), got, ok, want, wantOk)
	}
	if again, ok := inode.Number(got); ok != wantOk || wantOk && again != v {
		t.Errorf("%s: Number of Numbered of %s: %x, %v", what, tell(v), again, ok)
	}
}

// chunk asks for what Trim and Full must answer of s, and of one another.
func chunk(t *testing.T, what, s, trim, full string) {
	t.Helper()
	for _, c := range []struct{ call, got, want string }{
		{"Trim", inode.Trim(s), trim},
		{"Full", inode.Full(s), full},
		{"Trim of Trim", inode.Trim(inode.Trim(s)), trim},
		{"Trim of Full", inode.Trim(inode.Full(s)), trim},
		{"Full of Trim", inode.Full(inode.Trim(s)), full},
		{"Full of Full", inode.Full(inode.Full(s)), full},
	} {
		if c.got != c.want {
			t.Errorf("%s: %s of %s: %x; want %x", what, c.call, tell(s), c.got, c.want)
		}
	}
}

// tell is s in figures, cut where it is long.
func tell(s string) string {
	const figures = "0123456789abcdef"
	var b strings.Builder
	for i := range len(s) {
		if i == 80 {
			return b.String() + ".."
		}
		b.WriteByte(figures[s[i]>>4])
		b.WriteByte(figures[s[i]&15])
	}
	return b.String()
}

// texts hands out all texts of n of these bytes.
func texts(letters string, n int, each func(string)) {
	b := make([]byte, n)
	var at func(int)
	at = func(i int) {
		if i == n {
			each(string(b))
			return
		}
		for j := range len(letters) {
			b[i] = letters[j]
			at(i + 1)
		}
	}
	at(0)
}
