package inode_test

import (
	"math"
	"strings"
	"testing"

	"wainscot/api"
	"wainscot/inode"
)

// TestNumber (K2): numbers of inodes, and those that are none.
func TestNumber(t *testing.T) {
	for _, c := range []struct {
		what string
		ino  int
		want string
		ok   bool
	}{
		{"the root", api.Root, "\x00\x00\x00\x01", true},
		{"two", 2, "\x00\x00\x00\x02", true},
		{"seven", 7, "\x00\x00\x00\x07", true},
		{"a byte that is full", 255, "\x00\x00\x00\xff", true},
		{"two bytes", 256, "\x00\x00\x01\x00", true},
		{"three bytes", 65536, "\x00\x01\x00\x00", true},
		{"four bytes", 1 << 24, "\x01\x00\x00\x00", true},
		{"each byte another one", 0x12345678, "\x12\x34\x56\x78", true},
		{"the greatest", 1<<30 - 1, "\x3f\xff\xff\xff", true},
		{"one more", api.MaxIno, "", false},
		{"two more", 1<<30 + 1, "", false},
		{"0", 0, "", false},
		{"below 0", -1, "", false},
		{"below 0, the number of another sign", -7, "", false},
		{"the highest bit of 32", 1 << 31, "", false},
		{"the greatest of 32 bits", 1<<32 - 1, "", false},
		{"0 in 32 bits", 1 << 32, "", false},
		{"1 in 32 bits", 1<<32 + 1, "", false},
		{"1 in 32 bits, below 0", -1<<32 + 1, "", false},
		{"far above", math.MaxInt, "", false},
		{"far below", math.MinInt, "", false},
	} {
		number(t, c.what, c.ino, c.want, c.ok)
		if v, ok := plainNumber(c.ino); v != c.want || ok != c.ok {
			t.Errorf("%s: the plain words say otherwise", c.what)
		}
	}
}

// TestNumbered (K2): values of entries, and texts that are none.
func TestNumbered(t *testing.T) {
	for _, c := range []struct {
		what, v string
		want    int
		ok      bool
	}{
		{"the root", "\x00\x00\x00\x01", 1, true},
		{"seven", "\x00\x00\x00\x07", 7, true},
		{"each byte another one", "\x12\x34\x56\x78", 0x12345678, true},
		{"the greatest", "\x3f\xff\xff\xff", 1073741823, true},
		{"figures", "1234", 0x31323334, true},

		{"nothing", "", 0, false},
		{"one byte", "\x01", 0, false},
		{"three bytes", "\x00\x00\x01", 0, false},
		{"the three last bytes", "\x34\x56\x78", 0, false},
		{"five bytes", "\x00\x00\x00\x01\x00", 0, false},
		{"five bytes, a nought ahead", "\x00\x00\x00\x00\x01", 0, false},
		{"four noughts", "\x00\x00\x00\x00", 0, false},
		{"five noughts", "\x00\x00\x00\x00\x00", 0, false},
		{"one too many", "\x40\x00\x00\x00", 0, false},
		{"two too many", "\x40\x00\x00\x01", 0, false},
		{"the highest bit", "\x80\x00\x00\x01", 0, false},
		{"the greatest bytes", "\xff\xff\xff\xff", 0, false},
		{"a directory's value", "\x01", 0, false},
		{"a file's value", "\x02\x00\x00\x00\x01\x00\x00\x00\x05", 0, false},
		{"eight bytes", "\x00\x00\x00\x00\x00\x00\x00\x01", 0, false},
		{"a great many bytes", strings.Repeat("\x01", 1<<22), 0, false},
	} {
		numbered(t, c.what, c.v, c.want, c.ok)
		if n, ok := plainNumbered(c.v); n != c.want || ok != c.ok {
			t.Errorf("%s: the plain words say otherwise", c.what)
		}
	}
}

// TestManyNumbers (K2): the numbers at the edges, those at both ends, and many between and beyond.
func TestManyNumbers(t *testing.T) {
	ask := func(ino int) {
		want, ok := plainNumber(ino)
		number(t, "many", ino, want, ok)
	}
	for _, ino := range edges() {
		ask(ino)
	}
	for d := -70000; d <= 70000; d++ {
		ask(d)
		ask(api.MaxIno + d)
	}
	for ino := -1 << 33; ino < 1<<33; ino += 65537 {
		ask(ino)
	}
}

// TestNumberedTexts (K2): all texts of up to five bytes of those at the edges.
func TestNumberedTexts(t *testing.T) {
	for n := range 6 {
		texts("\x00\x01\x02\x3f\x40\x41\x7f\x80\xff", n, func(v string) {
			want, ok := plainNumbered(v)
			numbered(t, "texts", v, want, ok)
		})
	}
}

// TestNumberedChanged (K2): values of which one byte is another one, that are cut, or have bytes more.
func TestNumberedChanged(t *testing.T) {
	for _, v := range []string{"\x00\x00\x00\x01", "\x00\x00\x00\x00", "\x12\x34\x56\x78", "\x3f\xff\xff\xff", "\x40\x00\x00\x00"} {
		for at := range len(v) {
			for b := range 256 {
				x := v[:at] + string([]byte{byte(b)}) + v[at+1:]
				want, ok := plainNumbered(x)
				numbered(t, "a byte is another one", x, want, ok)
			}
			numbered(t, "cut", v[:at], 0, false)
			numbered(t, "cut ahead", v[at+1:], 0, false)
		}
		for b := range 256 {
			for more := 1; more < 50; more++ {
				numbered(t, "bytes more", v+strings.Repeat(string([]byte{byte(b)}), more), 0, false)
			}
		}
	}
}

// TestOneOrTheOther (K1, K2): no value of an inode is one of an entry.
func TestOneOrTheOther(t *testing.T) {
	for _, a := range edges() {
		for _, b := range edges() {
			if v, ok := inode.Value(file(a, b)); ok {
				numbered(t, "a file's value", v, 0, false)
			}
		}
		if v, ok := inode.Number(a); ok {
			of(t, "an entry's value", v, api.Inode{}, false)
		}
	}
	v, _ := inode.Value(dir(0, 0))
	numbered(t, "a directory's value", v, 0, false)
	for n := range 10 {
		texts("\x00\x01\x02", n, func(s string) {
			_, isInode := inode.Of(s)
			_, isEntry := inode.Numbered(s)
			if isInode && isEntry {
				t.Errorf("%x is both", s)
			}
		})
	}
}
