package inode_test

import (
	"math"
	"strings"
	"testing"

	"wainscot/api"
	"wainscot/inode"
)

// TestValue (K1): inodes that are right, and those that are not.
func TestValue(t *testing.T) {
	for _, c := range []struct {
		what string
		n    api.Inode
		want string
		ok   bool
	}{
		{"the chapter's example", file(1, 5), "\x02\x00\x00\x00\x01\x00\x00\x00\x05", true},
		{"a directory", dir(0, 0), "\x01", true},
		{"a directory with a link", dir(1, 0), "", false},
		{"a directory with a size", dir(0, 1), "", false},
		{"a directory with both", dir(1, 1), "", false},
		{"a directory with less than no links", dir(-1, 0), "", false},
		{"a directory with less than no size", dir(0, -1), "", false},
		{"a directory with links that are 0 in 32 bits", dir(1<<32, 0), "", false},
		{"a directory with a size that is 0 in 32 bits", dir(0, 1<<32), "", false},

		{"an empty file", file(1, 0), "\x02\x00\x00\x00\x01\x00\x00\x00\x00", true},
		{"a byte", file(1, 1), "\x02\x00\x00\x00\x01\x00\x00\x00\x01", true},
		{"as many bytes as may be", file(1, api.MaxSize), "\x02\x00\x00\x00\x01\x00\x10\x00\x00", true},
		{"one less", file(1, 1048575), "\x02\x00\x00\x00\x01\x00\x0f\xff\xff", true},
		{"one more", file(1, 1048577), "", false},
		{"less than no bytes", file(1, -1), "", false},
		{"two links", file(2, 7), "\x02\x00\x00\x00\x02\x00\x00\x00\x07", true},
		{"as many links as may be", file(65535, 0), "\x02\x00\x00\xff\xff\x00\x00\x00\x00", true},
		{"one link less", file(65534, 0), "\x02\x00\x00\xff\xfe\x00\x00\x00\x00", true},
		{"one link more", file(65536, 0), "", false},
		{"no links", file(0, 5), "", false},
		{"neither links nor bytes", file(0, 0), "", false},
		{"less than no links", file(-1, 5), "", false},
		{"the most of both", file(65535, 1048576), "\x02\x00\x00\xff\xff\x00\x10\x00\x00", true},
		{"each byte another one", file(0x1234, 0x0a5678), "\x02\x00\x00\x12\x34\x00\x0a\x56\x78", true},

		{"links that are 1 in 32 bits", file(1<<32+1, 0), "", false},
		{"links that are 1 in 16 bits", file(1<<16+1, 0), "", false},
		{"a size that is 0 in 32 bits", file(1, 1<<32), "", false},
		{"far above", file(math.MaxInt, math.MaxInt), "", false},
		{"far below", file(math.MinInt, math.MinInt), "", false},
		{"links far above", file(math.MaxInt, 0), "", false},
		{"links far below", file(math.MinInt, 0), "", false},
		{"a size far above", file(1, math.MaxInt), "", false},
		{"a size far below", file(1, math.MinInt), "", false},
	} {
		value(t, c.what, c.n, c.want, c.ok)
		if v, ok := plainValue(c.n); v != c.want || ok != c.ok {
			t.Errorf("%s: the plain words say otherwise", c.what)
		}
	}
}

// TestOf (K1): values, and texts that are none.
func TestOf(t *testing.T) {
	for _, c := range []struct {
		what, v string
		want    api.Inode
		ok      bool
	}{
		{"a directory", "\x01", dir(0, 0), true},
		{"the chapter's example", "\x02\x00\x00\x00\x01\x00\x00\x00\x05", file(1, 5), true},
		{"the most of both", "\x02\x00\x00\xff\xff\x00\x10\x00\x00", file(65535, 1048576), true},
		{"each byte another one", "\x02\x00\x00\x12\x34\x00\x0a\x56\x78", file(0x1234, 0x0a5678), true},

		{"nothing", "", api.Inode{}, false},
		{"a directory with a byte more", "\x01\x00", api.Inode{}, false},
		{"a directory with a file's noughts", "\x01" + strings.Repeat("\x00", 8), api.Inode{}, false},
		{"a directory with links", "\x01\x00\x00\x00\x01\x00\x00\x00\x05", api.Inode{}, false},
		{"a file of nothing else", "\x02", api.Inode{}, false},
		{"a file with links alone", "\x02\x00\x00\x00\x01", api.Inode{}, false},
		{"a file that is cut", "\x02\x00\x00\x00\x01\x00\x00\x00", api.Inode{}, false},
		{"a file with a nought more", "\x02\x00\x00\x00\x01\x00\x00\x00\x05\x00", api.Inode{}, false},
		{"a file with a byte more", "\x02\x00\x00\x00\x01\x00\x00\x00\x05\x05", api.Inode{}, false},
		{"a nought", "\x00", api.Inode{}, false},
		{"another byte", "\x03", api.Inode{}, false},
		{"a figure", "1", api.Inode{}, false},
		{"the greatest byte", "\xff", api.Inode{}, false},
		{"a nought ahead of a file", "\x00\x00\x00\x00\x01\x00\x00\x00\x05", api.Inode{}, false},
		{"another byte ahead of a file", "\x03\x00\x00\x00\x01\x00\x00\x00\x05", api.Inode{}, false},
		{"without the byte ahead", "\x00\x00\x00\x01\x00\x00\x00\x05", api.Inode{}, false},
		{"no links", "\x02\x00\x00\x00\x00\x00\x00\x00\x05", api.Inode{}, false},
		{"noughts alone", "\x02" + strings.Repeat("\x00", 8), api.Inode{}, false},
		{"a link too many", "\x02\x00\x01\x00\x00\x00\x00\x00\x05", api.Inode{}, false},
		{"the highest bit of the links", "\x02\x80\x00\x00\x01\x00\x00\x00\x05", api.Inode{}, false},
		{"a byte too many", "\x02\x00\x00\x00\x01\x00\x10\x00\x01", api.Inode{}, false},
		{"the highest bit of the size", "\x02\x00\x00\x00\x01\x80\x00\x00\x05", api.Inode{}, false},
		{"the greatest bytes", "\x02" + strings.Repeat("\xff", 8), api.Inode{}, false},
		{"the lowest byte first", "\x02\x01\x00\x00\x00\x05\x00\x00\x00", api.Inode{}, false},
		{"an entry's value", "\x02\x00\x00\x00", api.Inode{}, false},
		{"a great many of 1", strings.Repeat("\x01", 1<<22), api.Inode{}, false},
		{"a file with a great many noughts", "\x02\x00\x00\x00\x01\x00\x00\x00\x05" + strings.Repeat("\x00", 1<<22), api.Inode{}, false},
	} {
		of(t, c.what, c.v, c.want, c.ok)
		if n, ok := plainOf(c.v); n != c.want || ok != c.ok {
			t.Errorf("%s: the plain words say otherwise", c.what)
		}
	}
}

// edges are numbers at and beside each end that there is, and where fewer bits would tell another one.
func edges() []int {
	l := []int{math.MinInt, math.MinInt + 1, math.MaxInt - 1, math.MaxInt}
	for _, middle := range []int{0, 1 << 7, 1 << 8, 1 << 15, 1 << 16, 1 << 20, 1 << 24, 1 << 30, 1 << 31, 1 << 32, 1 << 33, 1 << 48, 1<<32 + 1<<16, 1<<32 + 1<<20, 1<<32 + 1<<30} {
		for d := -2; d <= 2; d++ {
			l = append(l, middle+d, -middle+d)
		}
	}
	return l
}

// TestValueAtTheEdges (K1): each edge of Links with each of Size.
func TestValueAtTheEdges(t *testing.T) {
	for _, links := range edges() {
		for _, size := range edges() {
			for _, n := range []api.Inode{dir(links, size), file(links, size)} {
				want, ok := plainValue(n)
				value(t, "at the edges", n, want, ok)
			}
		}
	}
}

// TestAllLinks (K1): a file with each number of links, and with some beyond.
func TestAllLinks(t *testing.T) {
	for links := -300; links <= 65535+300; links++ {
		for _, size := range []int{0, 77, api.MaxSize} {
			want, ok := plainValue(file(links, size))
			value(t, "all links", file(links, size), want, ok)
		}
	}
}

// TestAllSizes (K1): a file of each size, and of some beyond.
func TestAllSizes(t *testing.T) {
	for size := -300; size <= api.MaxSize+300; size++ {
		want, ok := plainValue(file(3, size))
		value(t, "all sizes", file(3, size), want, ok)
	}
}

// TestOfShort (K1): all texts of up to two bytes.
func TestOfShort(t *testing.T) {
	all := make([]byte, 256)
	for i := range all {
		all[i] = byte(i)
	}
	for n := range 3 {
		texts(string(all), n, func(v string) {
			want, ok := plainOf(v)
			of(t, "short", v, want, ok)
		})
	}
}

// TestOfChanged (K1): values of which one byte is another one, that are cut, or have bytes more.
func TestOfChanged(t *testing.T) {
	for _, n := range []api.Inode{dir(0, 0), file(1, 0), file(1, 5), file(65535, api.MaxSize), file(256, 65536), file(0x1234, 0x0a5678)} {
		v, _ := plainValue(n)
		for at := range len(v) {
			for b := range 256 {
				x := v[:at] + string([]byte{byte(b)}) + v[at+1:]
				want, ok := plainOf(x)
				of(t, "a byte is another one", x, want, ok)
			}
			of(t, "cut", v[:at], api.Inode{}, false)
			of(t, "cut ahead", v[at+1:], api.Inode{}, false)
		}
		for b := range 256 {
			for more := 1; more < 50; more++ {
				of(t, "bytes more", v+strings.Repeat(string([]byte{byte(b)}), more), api.Inode{}, false)
			}
		}
	}
}

// TestOfLong (K1): texts of each number of bytes up to twelve, of few bytes at the edges.
func TestOfLong(t *testing.T) {
	for n := 3; n <= 12; n++ {
		texts("\x00\x01", n, func(v string) {
			want, ok := plainOf(v)
			of(t, "a few bytes", v, want, ok)
			if n == 8 {
				want, ok := plainOf("\x02" + v)
				of(t, "a file of a few bytes", "\x02"+v, want, ok)
			}
		})
	}
	texts("\x00\x01\x10\x80\xff", 4, func(links string) {
		texts("\x00\x01\x0f\x10\x11\xff", 4, func(size string) {
			want, ok := plainOf("\x02" + links + size)
			of(t, "a file at the edges", "\x02"+links+size, want, ok)
		})
	})
}

// TestOneValue (K1): inodes that differ have values that do.
func TestOneValue(t *testing.T) {
	had := map[string]api.Inode{}
	l := []api.Inode{dir(0, 0)}
	for links := 1; links <= 65535; links += 257 {
		for size := 0; size <= api.MaxSize; size += 4095 {
			l = append(l, file(links, size))
		}
	}
	for _, n := range l {
		v, ok := inode.Value(n)
		if other, there := had[v]; there || !ok {
			t.Fatalf("%v and %v have the value %x, %v", n, other, v, ok)
		}
		if len(v) > api.MaxValue {
			t.Fatalf("%v has a value of %d bytes", n, len(v))
		}
		had[v] = n
	}
}
