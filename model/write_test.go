package model_test

import (
	"strings"
	"testing"

	"wainscot/api"
	"wainscot/model"
)

// TestWrite (OpWrite): the bytes from Off on are Data's, the others as they were, and what is new ahead of them is noughts.
func TestWrite(t *testing.T) {
	for _, c := range []struct {
		was  string
		off  int
		data string
		want string
	}{
		{"", 0, "a", "a"}, {"", 0, "abc", "abc"}, {"", 2, "x", "\x00\x00x"}, {"", 1, "\x00", "\x00\x00"},
		{"hello", 0, "J", "Jello"}, {"hello", 1, "i", "hillo"}, {"hello", 4, "!", "hell!"}, {"hello", 1, "ipp", "hippo"},
		{"hello", 0, "world", "world"}, {"hello", 0, "worlds", "worlds"}, {"hello", 3, "met", "helmet"}, {"hello", 4, "", "hello"},
		{"hello", 5, "!", "hello!"}, {"hello", 6, "!", "hello\x00!"}, {"hello", 9, "\x00", "hello" + noughts(5)},
		{"hello", 0, "\x00", "\x00ello"}, {"hello", 4, "\x00", "hell\x00"}, {"hello", 0, noughts(9), noughts(9)},
		{"hello", 1, "\xff\x80é", "h\xff\x80é"}, {"hello", 2, "é", "heéo"},
		{many(once), once - 1, "yz", many(once-1) + "yz"},
	} {
		m := made(t, create("/f"), write("/f", 0, c.was), create("/other"), write("/other", 0, "other"))
		done(t, m, write("/f", c.off, c.data))
		is(t, "written", m, whole(plain{"/": {dir: true}, "/f": {data: c.want}, "/other": {data: "other"}}))
	}
}

// TestWriteNothing (OpWrite): data without bytes changes nothing, wherever they are, and no file grows.
func TestWriteNothing(t *testing.T) {
	m := yard(t)
	was := whole(m)
	for _, off := range []int{0, 1, 3, 6, 7, once, most - 1, most} {
		done(t, m, write("/f", off, ""), write("/o", off, ""))
		is(t, "nothing is written", m, was)
	}
	refused(t, m, write("/f", most+1, ""), api.ETooBig)
	refused(t, m, write("/f", huge, ""), api.ETooBig)
	refused(t, m, write("/f", -1, ""), api.EArg)
	refused(t, m, write("/n", 0, ""), api.ENone)
	refused(t, m, write("/d", 0, ""), api.EIsDir)
	refused(t, m, write("/", 0, ""), api.EIsDir)
}

// TestWriteMost (OpWrite): up to 2^20, and up to 4096 bytes at once; above neither.
func TestWriteMost(t *testing.T) {
	for _, c := range []struct {
		off, n int
		want   api.Errno
	}{
		{0, once, api.OK}, {0, once + 1, api.ETooBig}, {1, once, api.OK}, {0, most, api.ETooBig}, {0, 2 * most, api.ETooBig},
		{most - once, once, api.OK}, {most - once, once + 1, api.ETooBig}, {most - once + 1, once, api.ETooBig}, {most - once + 1, once - 1, api.OK},
		{most - 1, 1, api.OK}, {most - 1, 2, api.ETooBig}, {most, 1, api.ETooBig}, {most, 0, api.OK}, {most, once, api.ETooBig}, {most + 1, 1, api.ETooBig}, {most + 1, 0, api.ETooBig},
		{2 * most, 1, api.ETooBig}, {1 << 32, 1, api.ETooBig}, {1<<32 + 5, 1, api.ETooBig}, {huge, 1, api.ETooBig}, {huge, once, api.ETooBig}, {huge - once, once, api.ETooBig},
		{-1, 1, api.EArg}, {-1, 0, api.EArg}, {-once, once, api.EArg}, {-1, once + 1, api.EArg}, {tiny, 1, api.EArg}, {tiny, once + 1, api.EArg},
	} {
		m := made(t, create("/f"), write("/f", 1, "abc"))
		o := write("/f", c.off, many(c.n))
		if c.want != api.OK {
			refused(t, m, o, c.want)
			continue
		}
		done(t, m, o)
		size := 4
		if c.n > 0 {
			size = max(size, c.off+c.n)
		}
		stats(t, m, "/f", file(1, size))
		if c.off > 4 && c.n > 0 {
			replies(t, m, read("/f", 0, 9), api.Reply{Data: "\x00abc" + noughts(5)})
			replies(t, m, read("/f", c.off-1, once), api.Reply{Data: "\x00" + many(min(c.n, once-1))})
		}
	}
}

// TestWriteBetween (OpWrite): between what was there and what is new are noughts, also where there were other bytes once.
func TestWriteBetween(t *testing.T) {
	for _, cut := range []int{0, 1, 3, once - 1, once, once + 1, 2 * once} {
		for _, off := range []int{cut, cut + 1, cut + once - 1, cut + once, cut + once + 1, most - 1} {
			m := made(t, create("/f"))
			for at := range 4 {
				done(t, m, write("/f", at*once, many(once)))
			}
			done(t, m, truncate("/f", cut), write("/f", off, "y"))
			p := plain{"/": {dir: true}, "/f": {data: many(cut) + noughts(off-cut) + "y"}}
			is(t, "between", m, whole(p))
		}
	}
}

// TestTruncate (OpTruncate): the first bytes, or noughts behind all.
func TestTruncate(t *testing.T) {
	for _, c := range []struct {
		was  string
		n    int
		want string
	}{
		{"", 0, ""}, {"", 1, "\x00"}, {"", 40, noughts(40)},
		{"hello", 0, ""}, {"hello", 1, "h"}, {"hello", 4, "hell"}, {"hello", 5, "hello"}, {"hello", 6, "hello\x00"}, {"hello", 99, "hello" + noughts(94)},
		{"a\x00\x00", 2, "a\x00"}, {"a\x00\x00", 1, "a"}, {"a\x00\x00", 4, "a\x00\x00\x00"},
		{many(once), once - 1, many(once - 1)}, {many(once), once, many(once)}, {many(once - 1), once, many(once-1) + "\x00"},
	} {
		m := made(t, create("/f"), write("/f", 0, c.was), create("/other"), write("/other", 0, "other"), truncate("/f", c.n))
		reads(t, m, "/f", c.want)
		reads(t, m, "/other", "other")
	}
}

// TestTruncateMost (OpTruncate): up to 2^20, and not above it or below 0.
func TestTruncateMost(t *testing.T) {
	for _, c := range []struct {
		n    int
		want api.Errno
	}{
		{0, api.OK}, {1, api.OK}, {once, api.OK}, {once + 1, api.OK}, {most - 1, api.OK}, {most, api.OK},
		{most + 1, api.ETooBig}, {2 * most, api.ETooBig}, {1 << 32, api.ETooBig}, {1<<32 + 1, api.ETooBig}, {huge, api.ETooBig},
		{-1, api.EArg}, {-most, api.EArg}, {-most - 1, api.EArg}, {tiny, api.EArg},
	} {
		m := made(t, create("/f"), write("/f", 1, "abc"))
		if c.want != api.OK {
			refused(t, m, truncate("/f", c.n), c.want)
			continue
		}
		done(t, m, truncate("/f", c.n))
		stats(t, m, "/f", file(1, c.n))
		replies(t, m, read("/f", 0, 9), api.Reply{Data: ("\x00abc" + noughts(5))[:min(9, c.n)]})
		replies(t, m, read("/f", max(4, c.n-9), once), api.Reply{Data: noughts(max(0, c.n-max(4, c.n-9)))})
	}
}

// TestTruncateForgets (OpTruncate): what was cut off is noughts when the file grows again, by a truncation or a write.
func TestTruncateForgets(t *testing.T) {
	for _, cut := range []int{0, 1, 5, once - 1, once, once + 1, 2*once - 1, 2 * once} {
		for _, grow := range []func(m *model.Model){
			func(m *model.Model) { done(t, m, truncate("/f", 3*once)) },
			func(m *model.Model) { done(t, m, write("/f", 3*once-1, "\x00")) },
			func(m *model.Model) { done(t, m, truncate("/f", most), truncate("/f", 3*once)) },
		} {
			m := made(t, create("/f"))
			for at := range 3 {
				done(t, m, write("/f", at*once, many(once)))
			}
			done(t, m, truncate("/f", cut))
			grow(m)
			is(t, "cut, and grown", m, whole(plain{"/": {dir: true}, "/f": {data: many(cut) + noughts(3*once-cut)}}))
		}
	}
}

// TestWriteAll (OpWrite, OpRead): a file of 2^20 bytes, written piece by piece, and read again.
func TestWriteAll(t *testing.T) {
	var b strings.Builder
	for b.Len() < most {
		b.WriteString(string(rune('a'+b.Len()%25)) + noughts(b.Len()%5))
	}
	all := b.String()[:most]
	m := made(t, create("/f"))
	for at := most; at > 0; { // the last piece first
		n := min(at, 3001)
		at -= n
		done(t, m, write("/f", at, all[at:at+n]))
		stats(t, m, "/f", file(1, most))
	}
	for off := 0; off < most; off += once {
		replies(t, m, read("/f", off, once), api.Reply{Data: all[off : off+once]})
	}
	refused(t, m, write("/f", most, "x"), api.ETooBig)
	done(t, m, write("/f", most-1, "\xff"))
	replies(t, m, read("/f", most-2, 9), api.Reply{Data: all[most-2:most-1] + "\xff"})
	replies(t, m, read("/f", most, once), api.Reply{})
}

// TestOneFile (OpWrite, OpTruncate): a file is the same one by all of its links, and by whatever name it has.
func TestOneFile(t *testing.T) {
	m := made(t, mkdir("/d"), create("/a"), link("/a", "/d/b"), link("/d/b", "/c"))
	done(t, m, write("/a", 0, "one"))
	reads(t, m, "/d/b", "one")
	done(t, m, write("/d/b", 3, " two"))
	reads(t, m, "/c", "one two")
	done(t, m, truncate("/c", 4), rename("/d", "/e"), rename("/e/b", "/x"))
	reads(t, m, "/x", "one ")
	done(t, m, write("/x", 0, "O"), unlink("/x"))
	reads(t, m, "/a", "One ")
	reads(t, m, "/c", "One ")
	stats(t, m, "/a", file(2, 4))
}
