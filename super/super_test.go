package super_test

import (
	"bytes"
	"encoding/binary"
	"math"
	"reflect"
	"slices"
	"strings"
	"testing"

	"wainscot/api"
	"wainscot/super"
)

var (
	eighteen = "eighteen bytes, so"
	nineteen = "nineteen bytes, yes"
)

// few is an ordinary superblock, made anew each time.
func few() api.Super {
	return api.Super{Gen: 0x0a0b, Root: 7, Next: 9, Commit: 300, Snaps: []api.Snap{
		{Name: "a", Root: 0, Commit: 0}, {Name: "ab", Root: 7, Commit: 300}, {Name: "b", Root: 2, Commit: 299},
	}}
}

// full is the greatest superblock: eight snapshots, all numbers and names as great as can be.
func full() api.Super {
	s := api.Super{Gen: 1<<48 - 1, Root: 1<<32 - 1, Next: 1 << 30, Commit: 1<<48 - 1}
	for i := range 8 {
		name := strings.Repeat("\xff", 17) + string([]byte{0xf8 + byte(i)})
		s.Snaps = append(s.Snaps, api.Snap{Name: name, Root: 1<<32 - 1, Commit: 1<<48 - 1})
	}
	return s
}

// with is s with something else about it.
func with(s api.Super, other func(s *api.Super)) api.Super {
	other(&s)
	return s
}

// named has a snapshot for each of these names.
func named(names ...string) api.Super {
	s := api.Super{Gen: 1, Next: 2}
	for _, n := range names {
		s.Snaps = append(s.Snaps, api.Snap{Name: n})
	}
	return s
}

// snapped has one snapshot, and 300 as its commit.
func snapped(root, commit int) api.Super {
	return api.Super{Gen: 1, Next: 2, Commit: 300, Snaps: []api.Snap{{Name: "n", Root: root, Commit: commit}}}
}

// rights are superblocks that are right.
func rights() []api.Super {
	l := []api.Super{few(), full(), {Gen: 1, Next: 2}}
	gen := func(n int) { l = append(l, with(few(), func(s *api.Super) { s.Gen = n })) }
	root := func(n int) { l = append(l, with(few(), func(s *api.Super) { s.Root = n })) }
	next := func(n int) { l = append(l, with(few(), func(s *api.Super) { s.Next = n })) }
	commit := func(n int) { l = append(l, api.Super{Gen: 1, Next: 2, Commit: n}) }
	for _, n := range []int{1, 2, 3, 255, 256, 1 << 32, 1<<48 - 2, 1<<48 - 1} {
		gen(n)
	}
	for _, n := range []int{0, 2, 3, 255, 256, 1 << 31, 1<<32 - 2, 1<<32 - 1} {
		root(n)
		l = append(l, snapped(n, 7))
	}
	for _, n := range []int{2, 3, 256, 1<<30 - 1, 1 << 30} {
		next(n)
	}
	for _, n := range []int{0, 1, 1 << 32, 1<<48 - 2, 1<<48 - 1} {
		commit(n)
	}
	for _, n := range []int{0, 1, 299, 300} {
		l = append(l, snapped(0, n))
	}
	return append(l,
		named("x"), named("xy"), named(eighteen[:17]), named(eighteen), named("\x00"), named(strings.Repeat("\x00", 18)),
		named("/"), named("."), named("é"), named("\xff"), named("a", "b"), named("a", "ab"), named("a", "a\x00"), named("B", "a"),
		named("ab", "b"), named("\x7f", "\x80"), named("\x00", "\x00\x00", "\x01"), named(eighteen[:17], eighteen),
		named("1", "2", "3", "4", "5", "6", "7"), named("1", "2", "3", "4", "5", "6", "7", "8"),
		with(few(), func(s *api.Super) { s.Snaps = nil }), with(few(), func(s *api.Super) { s.Snaps = []api.Snap{} }),
		with(snapped(0, 0), func(s *api.Super) { s.Commit = 0 }),
		with(snapped(0, 1<<48-1), func(s *api.Super) { s.Commit = 1<<48 - 1 }),
	)
}

// wrongs are superblocks that are not right, each for one cause alone.
func wrongs() []api.Super {
	l := []api.Super{{}, {Gen: 1}, {Next: 2}}
	for _, n := range []int{math.MinInt, -1 << 48, -1, 0, 1 << 48, 1<<48 + 1, 1 << 62, math.MaxInt} {
		l = append(l, with(few(), func(s *api.Super) { s.Gen = n }))
	}
	for _, n := range []int{math.MinInt, -1 << 32, -2, -1, 1, 1 << 32, 1<<32 + 2, math.MaxInt} {
		l = append(l, with(few(), func(s *api.Super) { s.Root = n }), snapped(n, 7))
	}
	for _, n := range []int{math.MinInt, -2, -1, 0, 1, 1<<30 + 1, 1 << 31, 1<<32 + 2, math.MaxInt} {
		l = append(l, with(few(), func(s *api.Super) { s.Next = n }))
	}
	for _, n := range []int{math.MinInt, -1, 1 << 48, 1<<48 + 1, math.MaxInt} {
		l = append(l, api.Super{Gen: 1, Next: 2, Commit: n})
	}
	for _, n := range []int{math.MinInt, -1, 301, 1<<48 - 1, 1 << 48, math.MaxInt} {
		l = append(l, snapped(0, n))
	}
	return append(l,
		named(""), named("", "a"), named("a", ""), named(nineteen), named(strings.Repeat("x", 255)), named(strings.Repeat("x", 256)),
		named("a", nineteen), named(nineteen, "z"), named(eighteen, nineteen), named(strings.Repeat("x", 100000)),
		named("a", "a"), named("a", "b", "b"), named("a", "b", "a"), named("b", "a"), named("ab", "a"), named("a\x00", "a"), named("a", "B"),
		named("\x80", "\x7f"), named("é", "z"), named(eighteen, eighteen[:17]), named("1", "2", "3", "4", "5", "6", "8", "7"),
		named("1", "2", "3", "4", "5", "6", "7", "8", "9"), named(make([]string, 9)...), named(make([]string, 300)...),
		with(full(), func(s *api.Super) { s.Snaps[7].Root = 1 }),
		with(full(), func(s *api.Super) { s.Snaps[7].Commit = 1 << 48 }),
		with(full(), func(s *api.Super) { s.Commit-- }),
		with(snapped(0, 1), func(s *api.Super) { s.Commit = 0 }),
		with(snapped(0, 1<<48), func(s *api.Super) { s.Commit = 1 << 48 }),
	)
}

// raw is the block that the chapter's words tell for s, be it right or not, as far as its bytes have room for what it says.
func raw(s api.Super) []byte {
	b := binary.BigEndian.AppendUint64(nil, uint64(s.Gen))
	b = append(b, "WAIN"...)
	b = binary.BigEndian.AppendUint32(b, uint32(s.Root))
	b = binary.BigEndian.AppendUint32(b, uint32(s.Next))
	b = binary.BigEndian.AppendUint64(b, uint64(s.Commit))
	b = append(b, byte(len(s.Snaps)))
	for _, p := range s.Snaps {
		b = append(b, byte(len(p.Name)))
		b = append(b, p.Name...)
		b = binary.BigEndian.AppendUint32(b, uint32(p.Root))
		b = binary.BigEndian.AppendUint64(b, uint64(p.Commit))
	}
	b = append(b, make([]byte, 512)...)[:504]
	return binary.BigEndian.AppendUint64(b, uint64(s.Gen))
}

// same tells whether two superblocks are the same; no Snaps are no Snaps, be they nil or empty.
func same(a, b api.Super) bool {
	return a.Gen == b.Gen && a.Root == b.Root && a.Next == b.Next && a.Commit == b.Commit && slices.Equal(a.Snaps, b.Snaps)
}

// is asks for a superblock.
func is(t *testing.T, s api.Super, e api.Errno, want api.Super) {
	t.Helper()
	if e != api.OK || !same(s, want) {
		t.Errorf("%#v, %v; want %#v", s, e, want)
	}
}

// isNone asks for none.
func isNone(t *testing.T, s api.Super, e api.Errno) {
	t.Helper()
	if e != api.ECorrupt || !same(s, api.Super{}) {
		t.Errorf("%#v, %v; want none, and ECorrupt", s, e)
	}
}

// block is the block of a right superblock.
func block(t *testing.T, s api.Super) []byte {
	t.Helper()
	b, e := super.Bytes(s)
	if e != api.OK {
		t.Fatalf("%#v: %v", s, e)
	}
	return b
}

// TestExample (D1): the chapter's example.
func TestExample(t *testing.T) {
	noughts := func(n int) string { return strings.Repeat("\x00", n) }
	want := noughts(7) + "\x01" + "WAIN" + "\x00\x00\x00\x00" + "\x00\x00\x00\x02" + noughts(8) + "\x00" + noughts(511-29) + "\x01"
	s := api.Super{Gen: 1, Next: 2}
	if b := block(t, s); string(b) != want {
		t.Errorf("%x", b)
	}
	x, e := super.Of([]byte(want))
	is(t, x, e, s)
}

// TestWrittenOut (D1): a block with snapshots, byte by byte.
func TestWrittenOut(t *testing.T) {
	s := api.Super{Gen: 0x010203040506, Root: 0xa1a2a3a4, Next: 0x31323334, Commit: 0xc1c2c3c4c5c6, Snaps: []api.Snap{
		{Name: eighteen, Root: 0xb1b2b3b4, Commit: 0xc1c2c3c4c5c6}, {Name: "x", Root: 0, Commit: 0xd1d2d3d4},
	}}
	want := "\x00\x00\x01\x02\x03\x04\x05\x06WAIN\xa1\xa2\xa3\xa4\x31\x32\x33\x34\x00\x00\xc1\xc2\xc3\xc4\xc5\xc6\x02" +
		"\x12" + eighteen + "\xb1\xb2\xb3\xb4\x00\x00\xc1\xc2\xc3\xc4\xc5\xc6" +
		"\x01x\x00\x00\x00\x00\x00\x00\x00\x00\xd1\xd2\xd3\xd4"
	want += strings.Repeat("\x00", 504-len(want)) + "\x00\x00\x01\x02\x03\x04\x05\x06"
	if b := block(t, s); string(b) != want {
		t.Errorf("%x", b)
	}
	x, e := super.Of([]byte(want))
	is(t, x, e, s)
}

// TestRights (D1): a right superblock is right, has its block, and is what that block is of.
func TestRights(t *testing.T) {
	for _, s := range rights() {
		if !super.Right(s) {
			t.Errorf("not right: %#v", s)
		}
		b, e := super.Bytes(s)
		if e != api.OK || !bytes.Equal(b, raw(s)) {
			t.Errorf("%#v: %x, %v; want %x", s, b, e, raw(s))
		}
		x, e := super.Of(raw(s))
		is(t, x, e, s)
	}
}

// TestWrongs (D1): any other one is not, and has none.
func TestWrongs(t *testing.T) {
	for _, s := range wrongs() {
		if super.Right(s) {
			t.Errorf("right: %#v", s)
		}
		if b, e := super.Bytes(s); e != api.EArg || len(b) != 0 {
			t.Errorf("%#v: %d bytes, %v; want EArg", s, len(b), e)
		}
	}
}

// TestBlocksOfWrongs (D1): what stands in a block as a superblock that is not right would is nobody's block.
func TestBlocksOfWrongs(t *testing.T) {
	for _, s := range wrongs() {
		if cut(s) {
			continue // its block tells something else
		}
		x, e := super.Of(raw(s))
		if e != api.ECorrupt || !same(x, api.Super{}) {
			t.Errorf("of the block of %#v: %#v, %v", s, x, e)
		}
	}
	for _, gen := range []uint64{0, 1 << 48, 1<<48 + 1, 1<<63 - 1, 1 << 63, 1<<63 + 1, math.MaxUint64} {
		b := raw(few())
		binary.BigEndian.PutUint64(b, gen)
		binary.BigEndian.PutUint64(b[504:], gen)
		x, e := super.Of(b)
		isNone(t, x, e)
	}
	for _, commit := range []uint64{1 << 48, 1<<63 - 1, 1 << 63, 1<<63 + 300, math.MaxUint64} {
		b := raw(few())
		binary.BigEndian.PutUint64(b[20:], commit)
		x, e := super.Of(b)
		isNone(t, x, e)
		b = raw(snapped(0, 0))
		binary.BigEndian.PutUint64(b[29+2+4:], commit)
		x, e = super.Of(b)
		isNone(t, x, e)
	}
}

// cut tells whether a field of s loses something in its bytes.
func cut(s api.Super) bool {
	word := func(n int) bool { return n < 0 || n > math.MaxUint32 }
	return word(s.Root) || word(s.Next) || len(s.Snaps) > 255 || slices.ContainsFunc(s.Snaps, func(p api.Snap) bool {
		return word(p.Root) || len(p.Name) > 255
	})
}

// TestCounts (D1): a block has just as many snapshots as its count tells.
func TestCounts(t *testing.T) {
	for _, s := range []api.Super{few(), full(), named(), named("a"), named("a", "b", "c", "d", "e", "f", "g", "h")} {
		for n := range 256 {
			b := raw(s)
			b[28] = byte(n)
			x, e := super.Of(b)
			if n == len(s.Snaps) {
				is(t, x, e, s)
			} else {
				isNone(t, x, e)
			}
		}
	}
}

// TestNamesRunOver (D1): names that would go on to the block's end, and behind it, are nobody's.
func TestNamesRunOver(t *testing.T) {
	for n := range 256 {
		for fill := range 256 {
			if n <= 18 && fill <= 18 {
				continue
			}
			b := raw(api.Super{Gen: 1, Next: 2})
			for i := 29; i < 504; i++ {
				b[i] = byte(fill)
			}
			b[28], b[29] = 8, byte(n)
			x, e := super.Of(b)
			isNone(t, x, e)
		}
	}
}

// TestSizes (D1): what has not 512 bytes is nobody's block.
func TestSizes(t *testing.T) {
	for _, s := range []api.Super{few(), full(), {Gen: 1, Next: 2}} {
		b := raw(s)
		for n := range 512 {
			x, e := super.Of(b[:n])
			isNone(t, x, e)
			x, e = super.Of(b[512-n:])
			isNone(t, x, e)
			// The end may stand where it stood, as seen from behind.
			x, e = super.Of(slices.Concat(b[:max(n-8, 0)], b[504:]))
			isNone(t, x, e)
		}
		for _, more := range [][]byte{{0}, {1}, b[504:], make([]byte, 512), b} {
			x, e := super.Of(append(slices.Clone(b), more...))
			isNone(t, x, e)
			x, e = super.Of(append(slices.Clone(more), b...))
			isNone(t, x, e)
		}
	}
	x, e := super.Of(nil)
	isNone(t, x, e)
	for _, fill := range []byte{0, 1, 0xff, 'W'} {
		x, e = super.Of(bytes.Repeat([]byte{fill}, 512))
		isNone(t, x, e)
	}
}

// TestOtherBytes (D1): with any one byte another one, a block is nobody's, or that of another superblock, whose Bytes it is.
func TestOtherBytes(t *testing.T) {
	for _, s := range []api.Super{few(), full(), {Gen: 1, Next: 2}} {
		b := raw(s)
		last := 29 // the first byte of the noughts
		for _, p := range s.Snaps {
			last += 1 + len(p.Name) + 12
		}
		for at := range b {
			fixed := at < 12 || at == 28 || at >= last
			for x := range 256 {
				c := slices.Clone(b)
				c[at] = byte(x)
				of, e := super.Of(c)
				switch {
				case c[at] == b[at]:
					is(t, of, e, s)
				case fixed || e != api.OK:
					isNone(t, of, e)
				case same(of, s) || !super.Right(of) || !bytes.Equal(raw(of), c):
					t.Errorf("byte %d is %d: %#v", at, x, of)
				}
			}
		}
	}
}

// TestOneByteTold (D1): what stands where is told, just if it is right.
func TestOneByteTold(t *testing.T) {
	for _, x := range []struct {
		at   int
		to   byte
		want func(s *api.Super)
	}{
		{12, 1, func(s *api.Super) { s.Root += 1 << 24 }},
		{15, 8, func(s *api.Super) { s.Root = 8 }},
		{15, 0, func(s *api.Super) { s.Root = 0 }},
		{15, 1, nil},
		{16, 0x3f, func(s *api.Super) { s.Next += 0x3f << 24 }},
		{16, 0x40, nil},
		{19, 2, func(s *api.Super) { s.Next = 2 }},
		{19, 1, nil},
		{20, 1, nil},
		{20, 0x80, nil},
		{22, 1, func(s *api.Super) { s.Commit += 1 << 40 }},
		{27, 0x2d, func(s *api.Super) { s.Commit++ }},
		{27, 0x2b, nil}, // a snapshot has a greater one
		{30, 'A', func(s *api.Super) { s.Snaps[0].Name = "A" }},
		{30, 'b', nil},
		{34, 1, nil},
		{34, 2, func(s *api.Super) { s.Snaps[0].Root = 2 }},
		{42, 1, func(s *api.Super) { s.Snaps[0].Commit = 1 }},
	} {
		b, want := raw(few()), few()
		b[x.at] = x.to
		s, e := super.Of(b)
		if x.want == nil {
			isNone(t, s, e)
		} else {
			x.want(&want)
			is(t, s, e, want)
		}
	}
}

// TestOwners (R1): what is handed in stays, and what comes out is its owner's.
func TestOwners(t *testing.T) {
	s := few()
	b := block(t, s)
	super.Right(s)
	if !reflect.DeepEqual(s, few()) {
		t.Errorf("changed: %#v", s)
	}
	wide := append(slices.Clone(b), 'x', 'y')
	x, e := super.Of(wide[:512])
	y, _ := super.Of(wide[:512])
	clear(wide[:512])
	is(t, x, e, few())
	if string(wide[512:]) != "xy" {
		t.Error("written behind what was handed in")
	}
	y.Snaps[0] = api.Snap{Name: "zz"}
	_ = append(x.Snaps[:1], y.Snaps[0])
	is(t, s, api.OK, few())
	c := block(t, s)
	clear(b)
	if !bytes.Equal(c, raw(few())) {
		t.Error("two blocks have to do with each other")
	}
	z, e := super.Of(c)
	is(t, z, e, few())
	if !bytes.Equal(c, raw(few())) {
		t.Error("the argument was changed")
	}
	// More room behind Snaps is not looked at, nor written.
	more := few()
	more.Snaps = append(more.Snaps, api.Snap{Name: "c", Root: 1})
	more.Snaps = more.Snaps[:3]
	if !bytes.Equal(block(t, more), raw(few())) || more.Snaps[:4][3] != (api.Snap{Name: "c", Root: 1}) {
		t.Error("what stands behind Snaps")
	}
}
