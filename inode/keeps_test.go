package inode_test

import (
	"strings"
	"testing"
	"unsafe"

	"wainscot/inode"
)

// share tells whether two texts have a byte in one place.
func share(a, b string) bool {
	if a == "" || b == "" {
		return false
	}
	from, other := uintptr(unsafe.Pointer(unsafe.StringData(a))), uintptr(unsafe.Pointer(unsafe.StringData(b)))
	return from < other+uintptr(len(b)) && other < from+uintptr(len(a))
}

// TestNothingIsShared (R1): texts that are handed in stay as they were, and no answer is a part of them.
func TestNothingIsShared(t *testing.T) {
	for _, text := range []string{"a\x00b\x00\x00", many(31), many(32), many(33), many(1000), "a" + noughts(31), "a" + noughts(1000), "\x01", "\x00\x00\x00\x01", "\x02\x00\x00\x00\x01\x00\x00\x00\x05"} {
		s := strings.Clone(text)
		trim, full := inode.Trim(s), inode.Full(s)
		inode.Of(s)
		inode.Numbered(s)
		if s != text {
			t.Errorf("%s is changed", tell(text))
		}
		if share(s, trim) || share(s, full) || share(trim, full) {
			t.Errorf("of %s a part is answered", tell(text))
		}
	}
}

// TestSameAgain (R3, R4): the same calls have the same answers, whatever was asked between.
func TestSameAgain(t *testing.T) {
	l := []string{"", "\x01", "\x02", "\x02\x00\x00\x00\x01\x00\x00\x00\x05", "\x02\x00\x00\x00\x00\x00\x00\x00\x05", "\x00\x00\x00\x01", noughts(4), "a\x00", many(40), noughts(40)}
	for range 3 {
		for _, s := range l {
			n, isInode := plainOf(s)
			of(t, "again", s, n, isInode)
			ino, isEntry := plainNumbered(s)
			numbered(t, "again", s, ino, isEntry)
			plainChunk(t, "again", s)
		}
		for _, i := range []int{-1, 0, 1, 65535, 65536, 1<<30 - 1, 1 << 30} {
			v, ok := plainValue(file(i, 5))
			value(t, "again", file(i, 5), v, ok)
			v, ok = plainValue(dir(i, 0))
			value(t, "again", dir(i, 0), v, ok)
			v, ok = plainNumber(i)
			number(t, "again", i, v, ok)
		}
	}
}
