package key_test

import (
	"math"
	"strings"
	"testing"

	"wainscot/api"
	"wainscot/key"
)

// What may stand in a key, and what may not.
var (
	numbers   = []int{1, 2, 7, 255, 256, 0x01020304, 1 << 29, 1<<30 - 2, 1<<30 - 1}
	noNumbers = []int{math.MinInt, -1 << 32, 1 - 1<<32, -1 << 30, -2, -1, 0, 1 << 30, 1<<30 + 1, 1 << 31, 1<<32 - 1, 1 << 32, 1<<32 + 1, math.MaxInt}
	places    = []int{0, 1, 2, 255, 256, 300, 0x01020304, 1<<31 - 1, 1 << 31, 1<<32 - 2, 1<<32 - 1}
	noPlaces  = []int{math.MinInt, -1 << 32, 1 - 1<<32, -2, -1, 1 << 32, 1<<32 + 1, 1 << 40, math.MaxInt}
	eighteen  = "eighteen bytes, so"
	nineteen  = "nineteen bytes, yes"
	names     = []string{"a", "b", "ab", "a\x01", "\x01", "\xff", "\x01\xff", "é", "\xc3", ".", "..", "/", "a/b", "seventeen bytes..", eighteen, strings.Repeat("\xff", 18), strings.Repeat("\x01", 18), strings.Repeat("a", 17), strings.Repeat("a", 18)}
	noNames   = []string{"", "\x00", "a\x00", "\x00a", "a\x00b", "\x00\x00", eighteen[:17] + "\x00", "\x00" + eighteen[:17], nineteen, eighteen + "\x00", strings.Repeat("a", 19), strings.Repeat("\xff", 19), strings.Repeat("a", 255), strings.Repeat("a", 256), strings.Repeat("a", 257), strings.Repeat("a", 274), strings.Repeat("x", 100000)}
)

const lengthOfKeys = 24

// of is the key of these bytes.
func of(t *testing.T, s string) api.Key {
	t.Helper()
	var k api.Key
	if len(s) != lengthOfKeys || copy(k[:], s) != lengthOfKeys {
		t.Fatalf("a key of %d bytes", len(s))
	}
	return k
}

// four is a number in four bytes, by dividing.
func four(n int) string {
	return string([]byte{byte(n / 16777216 % 256), byte(n / 65536 % 256), byte(n / 256 % 256), byte(n % 256)})
}

func noughts(n int) string { return strings.Repeat("\x00", n) }

// The bytes of right keys, as the chapter's words tell them.
func inodeBytes(ino int) string { return four(ino) + "\x01" + noughts(19) }

func entryBytes(dir int, name string) string {
	return four(dir) + "\x02" + name + noughts(18-len(name)) + string([]byte{byte(len(name))})
}

func chunkBytes(ino, place int) string { return four(ino) + "\x03" + noughts(15) + four(place) }

// is asks for a key that there is.
func is(t *testing.T, k api.Key, ok bool, want string) {
	t.Helper()
	if !ok || k != of(t, want) {
		t.Errorf("%x, %v; want %x", k, ok, want)
	}
}

// isNone asks for none.
func isNone(t *testing.T, k api.Key, ok bool) {
	t.Helper()
	if ok || k != (api.Key{}) {
		t.Errorf("%x, %v; want none", k, ok)
	}
}

// TestKeyBytes (C1): keys written out, byte by byte.
func TestKeyBytes(t *testing.T) {
	k, ok := key.Entry(1, "ab") // the chapter's example
	is(t, k, ok, "\x00\x00\x00\x01\x02\x61\x62\x00\x00\x00\x00\x00\x00\x00\x00\x00\x00\x00\x00\x00\x00\x00\x00\x02")
	k, ok = key.Entry(0x01020304, "abcdefghijklmnopqr")
	is(t, k, ok, "\x01\x02\x03\x04\x02abcdefghijklmnopqr\x12")
	k, ok = key.Entry(1<<30-1, "\xff")
	is(t, k, ok, "\x3f\xff\xff\xff\x02\xff\x00\x00\x00\x00\x00\x00\x00\x00\x00\x00\x00\x00\x00\x00\x00\x00\x00\x01")
	k, ok = key.Inode(1)
	is(t, k, ok, "\x00\x00\x00\x01\x01\x00\x00\x00\x00\x00\x00\x00\x00\x00\x00\x00\x00\x00\x00\x00\x00\x00\x00\x00")
	k, ok = key.Inode(1<<30 - 1)
	is(t, k, ok, "\x3f\xff\xff\xff\x01\x00\x00\x00\x00\x00\x00\x00\x00\x00\x00\x00\x00\x00\x00\x00\x00\x00\x00\x00")
	k, ok = key.Chunk(7, 0)
	is(t, k, ok, "\x00\x00\x00\x07\x03\x00\x00\x00\x00\x00\x00\x00\x00\x00\x00\x00\x00\x00\x00\x00\x00\x00\x00\x00")
	k, ok = key.Chunk(0x01020304, 0x05060708)
	is(t, k, ok, "\x01\x02\x03\x04\x03\x00\x00\x00\x00\x00\x00\x00\x00\x00\x00\x00\x00\x00\x00\x00\x05\x06\x07\x08")
	k, ok = key.Chunk(7, 1<<32-1)
	is(t, k, ok, "\x00\x00\x00\x07\x03\x00\x00\x00\x00\x00\x00\x00\x00\x00\x00\x00\x00\x00\x00\x00\xff\xff\xff\xff")
}

// TestKeys (C1): keys of all numbers, names and places that may be.
func TestKeys(t *testing.T) {
	for _, ino := range numbers {
		k, ok := key.Inode(ino)
		is(t, k, ok, inodeBytes(ino))
		for _, name := range names {
			k, ok := key.Entry(ino, name)
			is(t, k, ok, entryBytes(ino, name))
		}
		for _, place := range places {
			k, ok := key.Chunk(ino, place)
			is(t, k, ok, chunkBytes(ino, place))
		}
	}
}

// TestNoKeys (C1): a number, a name or a place that may not be has no key, whatever the other is.
func TestNoKeys(t *testing.T) {
	for _, ino := range noNumbers {
		k, ok := key.Inode(ino)
		isNone(t, k, ok)
		for _, name := range append(noNames, names...) {
			k, ok := key.Entry(ino, name)
			isNone(t, k, ok)
		}
		for _, place := range append(noPlaces, places...) {
			k, ok := key.Chunk(ino, place)
			isNone(t, k, ok)
		}
	}
	for _, ino := range numbers {
		for _, name := range noNames {
			k, ok := key.Entry(ino, name)
			isNone(t, k, ok)
		}
		for _, place := range noPlaces {
			k, ok := key.Chunk(ino, place)
			isNone(t, k, ok)
		}
	}
}

// TestNameBytes (C1): each byte may stand anywhere in a name, but 0, which may nowhere; of lengths just those from 1 to 18 may be.
func TestNameBytes(t *testing.T) {
	for n := range 40 {
		for at := range n {
			for c := range 256 {
				b := []byte(strings.Repeat("n", n))
				b[at] = byte(c)
				k, ok := key.Entry(5, string(b))
				if n <= 18 && c != 0 {
					is(t, k, ok, entryBytes(5, string(b)))
				} else {
					isNone(t, k, ok)
				}
			}
		}
	}
}

// rightKeys are keys of each kind, with what they say.
func rightKeys() map[string]key.Parts {
	m := map[string]key.Parts{}
	for _, ino := range numbers {
		m[inodeBytes(ino)] = key.Parts{Ino: ino, Kind: api.KindInode}
		for _, name := range names {
			m[entryBytes(ino, name)] = key.Parts{Ino: ino, Kind: api.KindEntry, Name: name}
		}
		for _, place := range places {
			m[chunkBytes(ino, place)] = key.Parts{Ino: ino, Kind: api.KindChunk, Place: place}
		}
	}
	return m
}

// wanted is what the chapter's words say of any key, read off its bytes as text.
func wanted(s string) (key.Parts, bool) {
	ino := int(s[0])*16777216 + int(s[1])*65536 + int(s[2])*256 + int(s[3])
	p := key.Parts{Ino: ino, Kind: int(s[4])}
	rest := s[5:]
	right := ino >= 1 && ino <= 1073741823
	switch p.Kind {
	case 1:
		right = right && rest == noughts(19)
	case 2:
		p.Name = strings.TrimRight(rest[:18], "\x00")
		right = right && p.Name != "" && !strings.Contains(p.Name, "\x00") && len(p.Name) == int(rest[18])
	case 3:
		right = right && strings.HasPrefix(rest, noughts(15))
		p.Place = int(rest[15])*16777216 + int(rest[16])*65536 + int(rest[17])*256 + int(rest[18])
	default:
		right = false
	}
	if !right {
		return key.Parts{}, false
	}
	return p, true
}

// says holds what is said of a key against what is wanted.
func says(t *testing.T, s string, want key.Parts, right bool) {
	t.Helper()
	if p, ok := key.Of(of(t, s)); ok != right || p != want {
		t.Errorf("%x: %#v, %v; want %#v, %v", s, p, ok, want, right)
	}
}

// TestOf (C2): right keys say what they were made of.
func TestOf(t *testing.T) {
	for s, p := range rightKeys() {
		says(t, s, p, true)
	}
}

// TestOfOthers (C2): a key that is not right says nothing.
func TestOfOthers(t *testing.T) {
	for _, s := range []string{
		noughts(24),
		strings.Repeat("\xff", 24),
		"\x01" + noughts(23),
		// Numbers that may not be.
		inodeBytes(0), inodeBytes(1 << 30), inodeBytes(1<<30 + 1), inodeBytes(1 << 31), inodeBytes(1<<32 - 1),
		entryBytes(0, "a"), entryBytes(1<<30, "a"), entryBytes(1<<32-1, "a"),
		chunkBytes(0, 0), chunkBytes(1<<30, 0), chunkBytes(1<<32-1, 3),
		// Kinds that there are not.
		four(1) + "\x00" + noughts(19), four(1) + "\x04" + noughts(19), four(1) + "\x05" + noughts(19), four(1) + "\xff" + noughts(19),
		four(1) + "\x00a" + noughts(17) + "\x01", four(1) + "\x04a" + noughts(17) + "\x01",
		// Noughts that are not noughts.
		four(1) + "\x01" + noughts(18) + "\x01", four(1) + "\x01\x01" + noughts(18), four(1) + "\x01a" + noughts(17) + "\x01",
		four(1) + "\x02a" + noughts(16) + "b\x01", four(1) + "\x02ab" + noughts(16) + "\x01",
		four(1) + "\x03" + noughts(14) + "\x01" + four(0), four(1) + "\x03\x01" + noughts(18),
		// A last byte that tells another length.
		four(1) + "\x02" + noughts(19), four(1) + "\x02" + noughts(18) + "\x01", four(1) + "\x02" + noughts(18) + "\x12",
		four(1) + "\x02ab" + noughts(16) + "\x00", four(1) + "\x02ab" + noughts(16) + "\x03", four(1) + "\x02ab" + noughts(16) + "\xff",
		four(1) + "\x02" + eighteen + "\x11", four(1) + "\x02" + eighteen + "\x13", four(1) + "\x02" + eighteen + "\x00", four(1) + "\x02" + eighteen + "\xff",
		four(1) + "\x02" + nineteen, four(1) + "\x02" + eighteen[:17] + "\x00\x12",
		// A 0 within a name.
		four(1) + "\x02a\x00b" + noughts(15) + "\x03", four(1) + "\x02\x00b" + noughts(16) + "\x02", four(1) + "\x02a" + noughts(17) + "\x02",
	} {
		says(t, s, key.Parts{}, false)
	}
}

// TestOfAll (C2): each key that is one byte off a right one, and many that are two off, say just what they should.
func TestOfAll(t *testing.T) {
	try := func(b []byte) {
		t.Helper()
		p, ok := wanted(string(b))
		says(t, string(b), p, ok)
	}
	for s := range rightKeys() {
		for i := range lengthOfKeys {
			for c := range 256 {
				b := []byte(s)
				b[i] = byte(c)
				try(b)
			}
			for j := range i {
				for _, c := range []byte{0, 1, 2, 3, 18, 19, 64, 255} {
					b := []byte(s)
					b[i], b[j] = c, c^b[j]
					try(b)
				}
			}
		}
	}
}

// TestThereAndBack (C1, C2): what a right key says makes it again, and no two of them are the same.
func TestThereAndBack(t *testing.T) {
	seen := map[api.Key]key.Parts{}
	for _, want := range rightKeys() {
		var k api.Key
		var ok bool
		switch want.Kind {
		case api.KindInode:
			k, ok = key.Inode(want.Ino)
		case api.KindEntry:
			k, ok = key.Entry(want.Ino, want.Name)
		case api.KindChunk:
			k, ok = key.Chunk(want.Ino, want.Place)
		}
		if p, right := key.Of(k); !ok || !right || p != want {
			t.Errorf("%#v: %#v, %v", want, p, right)
		}
		if other, there := seen[k]; there {
			t.Errorf("%#v and %#v have one key", want, other)
		}
		seen[k] = want
	}
}
