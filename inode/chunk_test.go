package inode_test

import (
	"strings"
	"testing"

	"wainscot/api"
	"wainscot/inode"
)

func noughts(n int) string { return strings.Repeat("\x00", n) }

func many(n int) string { return strings.Repeat("x", n) }

// TestChunk (K3): Trim and Full, of texts with noughts and without.
func TestChunk(t *testing.T) {
	const bytes32 = "abcdefghijklmnopqrstuvwxyz012345"
	for _, c := range []struct{ what, s, trim, full string }{
		{"nothing", "", "", noughts(32)},
		{"one byte", "a", "a", "a" + noughts(31)},
		{"one nought", "\x00", "", noughts(32)},
		{"31 noughts", noughts(31), "", noughts(32)},
		{"32 noughts", noughts(32), "", noughts(32)},
		{"33 noughts", noughts(33), "", noughts(32)},
		{"a great many noughts", noughts(1 << 22), "", noughts(32)},
		{"noughts in the midst and at the end", "a\x00b\x00\x00", "a\x00b", "a\x00b" + noughts(29)},
		{"noughts in the midst alone", "a\x00\x00b", "a\x00\x00b", "a\x00\x00b" + noughts(28)},
		{"noughts at first", "\x00\x00b", "\x00\x00b", "\x00\x00b" + noughts(29)},
		{"noughts all about", "\x00a\x00", "\x00a", "\x00a" + noughts(30)},
		{"31 bytes", bytes32[:31], bytes32[:31], bytes32[:31] + "\x00"},
		{"32 bytes", bytes32, bytes32, bytes32},
		{"33 bytes", bytes32 + "6", bytes32, bytes32},
		{"a great many bytes", strings.Repeat(bytes32, 1<<17), bytes32, bytes32},
		{"30 bytes, a nought", many(30) + "\x00", many(30), many(30) + noughts(2)},
		{"31 bytes, a nought", many(31) + "\x00", many(31), many(31) + "\x00"},
		{"32 bytes, a nought", many(32) + "\x00", many(32), many(32)},
		{"31 bytes, two noughts", many(31) + noughts(2), many(31), many(31) + "\x00"},
		{"31 noughts, a byte", noughts(31) + "a", noughts(31) + "a", noughts(31) + "a"},
		{"32 noughts, a byte", noughts(32) + "a", "", noughts(32)},
		{"a nought at the 32nd, a byte behind it", many(31) + "\x00a", many(31), many(31) + "\x00"},
		{"noughts up to the 32nd, a byte behind them", many(5) + noughts(27) + "a", many(5), many(5) + noughts(27)},
		{"noughts up to the 32nd, many bytes behind them", "a\x00b" + noughts(29) + many(100), "a\x00b", "a\x00b" + noughts(29)},
		{"noughts up to the 31st, a byte behind them", many(5) + noughts(26) + "a", many(5) + noughts(26) + "a", many(5) + noughts(26) + "a"},
		{"figures of 0 are no noughts", "a00", "a00", "a00" + noughts(29)},
		{"spaces and lines are none", "a \n\t", "a \n\t", "a \n\t" + noughts(28)},
		{"the greatest bytes", "\xff\xff\x00", "\xff\xff", "\xff\xff" + noughts(30)},
		{"characters of several bytes", "日本\x00", "日本", "日本" + noughts(26)},
		{"a character that is cut at the 32nd", many(31) + "é", many(31) + "\xc3", many(31) + "\xc3"},
		{"bytes that are none of a character", "\x80\x00\xc3\x00", "\x80\x00\xc3", "\x80\x00\xc3" + noughts(29)},
		{"a nought in two bytes is none", "a\xc0\x80", "a\xc0\x80", "a\xc0\x80" + noughts(29)},
	} {
		chunk(t, c.what, c.s, c.trim, c.full)
		if plainTrim(c.s) != c.trim || plainFull(c.s) != c.full {
			t.Errorf("%s: the plain words say otherwise", c.what)
		}
	}
}

// plainChunk asks for all that the plain words say of s.
func plainChunk(t *testing.T, what, s string) {
	t.Helper()
	trim, full := plainTrim(s), plainFull(s)
	chunk(t, what, s, trim, full)
	got := inode.Trim(s)
	if len(got) > api.Chunk || len(got) > 0 && got[len(got)-1] == 0 {
		t.Errorf("%s: Trim of %s is no chunk's value: %x", what, tell(s), got)
	}
	if n := len(inode.Full(s)); n != api.Chunk {
		t.Errorf("%s: Full of %s has %d bytes", what, tell(s), n)
	}
}

// TestChunkShort (K3): all texts of up to seven bytes of those at the edges.
func TestChunkShort(t *testing.T) {
	for n := range 8 {
		texts("\x00\x01a\xff", n, func(s string) { plainChunk(t, "short", s) })
	}
}

// TestChunkLong (K3): texts of up to 70 bytes that have noughts from each place to each other one.
func TestChunkLong(t *testing.T) {
	for n := range 71 {
		for from := range n + 1 {
			for to := from; to <= n; to++ {
				plainChunk(t, "noughts between", many(from)+noughts(to-from)+many(n-to))
				plainChunk(t, "noughts about", noughts(from)+many(to-from)+noughts(n-to))
			}
		}
	}
}

// TestChunkBytes (K3): each byte, at each place of a chunk and behind it.
func TestChunkBytes(t *testing.T) {
	for b := range 256 {
		one := string([]byte{byte(b)})
		for at := range 40 {
			plainChunk(t, "a byte alone", noughts(at)+one)
			plainChunk(t, "a byte behind others", many(at)+one)
			plainChunk(t, "a byte among noughts", noughts(at)+one+noughts(40-at))
			plainChunk(t, "a byte among others", many(at)+one+many(40-at))
			plainChunk(t, "the same over and over", strings.Repeat(one, at))
		}
	}
}

// TestOneValueOfAChunk (K3): texts mean the same chunk just if Trim, and Full, are the same of both.
func TestOneValueOfAChunk(t *testing.T) {
	var l []string
	for n := range 4 {
		texts("\x00a", n, func(s string) {
			l = append(l, s, noughts(30)+s, many(30)+s)
		})
	}
	for _, a := range l {
		for _, b := range l {
			same := plainFull(a) == plainFull(b)
			if (inode.Trim(a) == inode.Trim(b)) != same || (inode.Full(a) == inode.Full(b)) != same {
				t.Errorf("%x, %x: the same is %v", a, b, same)
			}
		}
	}
}
