package node_test

import (
	"bytes"
	"encoding/binary"
	"math"
	"reflect"
	"slices"
	"strings"
	"testing"

	"wainscot/api"
	"wainscot/node"
)

var (
	forty    = strings.Repeat("forty byte", 4)
	fortyOne = forty + "s"
)

// key is the key that begins with these bytes, and has noughts behind them.
func key(s string) (k api.Key) {
	copy(k[:], s)
	return k
}

// number is the key of noughts with this one at its end.
func number(n int) (k api.Key) {
	binary.BigEndian.PutUint32(k[20:], uint32(n))
	return k
}

// leaf has a pair for each of these values, under 1, 2, 3 and so on.
func leaf(values ...string) api.Node {
	var x api.Node
	for i, v := range values {
		x.Pairs = append(x.Pairs, api.Pair{Key: number(i + 1), Value: v})
	}
	return x
}

// inner has a kid for each of these blocks, under 1, 2, 3 and so on.
func inner(level int, blocks ...int) api.Node {
	x := api.Node{Level: level}
	for i, b := range blocks {
		x.Kids = append(x.Kids, api.Kid{First: number(i + 1), Block: b})
	}
	return x
}

// under has a pair for each of these keys.
func under(keys ...api.Key) api.Node {
	var x api.Node
	for i, k := range keys {
		x.Pairs = append(x.Pairs, api.Pair{Key: k, Value: string(rune('a' + i))})
	}
	return x
}

// above has a kid for each of these keys.
func above(keys ...api.Key) api.Node {
	x := api.Node{Level: 1}
	for i, k := range keys {
		x.Kids = append(x.Kids, api.Kid{First: k, Block: 30 - i})
	}
	return x
}

// blocks are n of them, from 2 on.
func blocks(n int) []int {
	var l []int
	for i := range n {
		l = append(l, 2+i)
	}
	return l
}

// with is x with something else about it.
func with(x api.Node, other func(x *api.Node)) api.Node {
	other(&x)
	return x
}

// fullLeaf is the greatest leaf, and fullInner the greatest of the other ones.
func fullLeaf() api.Node {
	var x api.Node
	for i := range 7 {
		k := key(strings.Repeat("\xff", 24))
		k[23] -= byte(6 - i)
		x.Pairs = append(x.Pairs, api.Pair{Key: k, Value: strings.Repeat("\xff", 40)})
	}
	return x
}

func fullInner() api.Node {
	x := api.Node{Level: 11}
	for i := range 18 {
		k := key(strings.Repeat("\xff", 24))
		k[23] -= byte(17 - i)
		x.Kids = append(x.Kids, api.Kid{First: k, Block: 1<<32 - 1 - i})
	}
	return x
}

// fewPairs and fewKids are ordinary ones.
func fewPairs() api.Node { return leaf("one", "", "three") }

func fewKids() api.Node { return inner(3, 9, 0x01020304, 2, 700) }

// steps are two keys that rise just at one byte, for each of the 24: alike ahead of it, and falling behind it, if they can.
func steps() [][2]api.Key {
	var l [][2]api.Key
	for at := range 24 {
		for _, x := range [][2]byte{{0, 1}, {1, 2}, {0x7f, 0x80}, {0xfe, 0xff}, {0, 0xff}} {
			low, high := key(strings.Repeat("\x55", 24)), key(strings.Repeat("\x55", 24))
			low[at], high[at] = x[0], x[1]
			l = append(l, [2]api.Key{low, high})
			for i := at + 1; i < 24; i++ {
				low[i], high[i] = 0xff, 0
			}
			l = append(l, [2]api.Key{low, high})
		}
	}
	return l
}

// rights are nodes that are right.
func rights() []api.Node {
	l := []api.Node{fewPairs(), fewKids(), fullLeaf(), fullInner(), under(api.Key{})}
	for n := 1; n <= 7; n++ {
		l = append(l, leaf(make([]string, n)...))
	}
	for n := 2; n <= 18; n++ {
		l = append(l, inner(1, blocks(n)...))
	}
	for level := 1; level <= 11; level++ {
		l = append(l, inner(level, 2, 3))
	}
	for n := range 41 {
		l = append(l, leaf(forty[:n]), leaf("x", forty[:n], "y"), leaf(strings.Repeat("\x00", n)))
	}
	for _, n := range []int{2, 3, 255, 256, 65536, 1<<31 - 1, 1 << 31, 1<<32 - 2, 1<<32 - 1} {
		l = append(l, inner(1, n, 77), inner(1, 77, n), inner(11, 70, 71, n, 72))
	}
	for _, p := range steps() {
		l = append(l, under(p[0], p[1]), above(p[0], p[1]), under(api.Key{}, p[0], p[1]), above(api.Key{}, p[0], p[1]))
	}
	return append(l,
		with(fewPairs(), func(x *api.Node) { x.Kids = []api.Kid{} }),
		with(fewKids(), func(x *api.Node) { x.Pairs = []api.Pair{} }),
		leaf("WT"), leaf("\xff"), leaf("é"), leaf("a", "a"), inner(1, 3, 2), inner(1, 2, 1<<32-1),
	)
}

// wrongs are nodes that are not right, each for one cause alone, if it can be.
func wrongs() []api.Node {
	l := []api.Node{{}, {Pairs: []api.Pair{}, Kids: []api.Kid{}}, {Level: 1}, {Level: 11}, {Level: -1}, {Level: 12}}
	for _, level := range []int{math.MinInt, -256, -12, -1, 12, 13, 255, 256, 257, 1 << 32, math.MaxInt} {
		l = append(l, inner(level, 2, 3))
		l = append(l, with(fewPairs(), func(x *api.Node) { x.Level = level }))
	}
	for level := 1; level <= 11; level++ {
		l = append(l, with(fewPairs(), func(x *api.Node) { x.Level = level }))
	}
	for _, n := range []int{8, 9, 18, 255, 256, 257, 263, 1000} {
		l = append(l, leaf(make([]string, n)...))
	}
	for _, n := range []int{0, 1, 19, 20, 255, 256, 258, 274, 1000} {
		l = append(l, inner(1, blocks(n)...), inner(11, blocks(n)...))
	}
	for _, s := range []string{fortyOne, strings.Repeat("x", 42), strings.Repeat("x", 255), strings.Repeat("x", 256), strings.Repeat("x", 1<<20)} {
		l = append(l, leaf(s), leaf(s, ""), leaf("", s), leaf("1", "2", "3", "4", "5", "6", s))
	}
	for _, n := range []int{math.MinInt, -1 << 32, -2, -1, 0, 1, 1 << 32, 1<<32 + 2, 1 << 40, math.MaxInt} {
		l = append(l, inner(1, n, 77), inner(1, 77, n), inner(11, 70, 71, n, 72))
	}
	for _, p := range steps() {
		for _, k := range []api.Key{p[0], p[1]} {
			l = append(l, under(k, k), above(k, k), under(api.Key{}, k, k), above(api.Key{}, k, k))
		}
		l = append(l, under(p[1], p[0]), above(p[1], p[0]), under(api.Key{}, p[1], p[0]), above(api.Key{}, p[1], p[0]))
	}
	for i := range 17 {
		l = append(l, with(fullInner(), func(x *api.Node) { x.Kids[i], x.Kids[i+1] = x.Kids[i+1], x.Kids[i] }))
		l = append(l, with(fullInner(), func(x *api.Node) { x.Kids[i].First = x.Kids[i+1].First }))
	}
	for i := range 6 {
		l = append(l, with(fullLeaf(), func(x *api.Node) { x.Pairs[i], x.Pairs[i+1] = x.Pairs[i+1], x.Pairs[i] }))
		l = append(l, with(fullLeaf(), func(x *api.Node) { x.Pairs[i].Key = x.Pairs[i+1].Key }))
	}
	for i := range 18 {
		for j := range i {
			l = append(l, with(fullInner(), func(x *api.Node) { x.Kids[i].Block = x.Kids[j].Block }))
		}
	}
	return append(l,
		inner(0, 2, 3), inner(0, 2), under(number(1), number(2), number(1)), above(number(1), number(2), number(1)),
		with(fewPairs(), func(x *api.Node) { x.Kids = fewKids().Kids[:1] }),
		with(fewPairs(), func(x *api.Node) { x.Kids = fewKids().Kids }),
		with(fewKids(), func(x *api.Node) { x.Pairs = fewPairs().Pairs[:1] }),
		with(fewKids(), func(x *api.Node) { x.Pairs = fewPairs().Pairs }),
	)
}

// raw is the block that the chapter's words tell for x, be it right or not; it is longer, where x has more.
func raw(x api.Node) []byte {
	b := []byte{'W', 'T', byte(x.Level), byte(len(x.Pairs) + len(x.Kids))}
	for _, p := range x.Pairs {
		b = append(b, p.Key[:]...)
		b = append(b, byte(len(p.Value)))
		b = append(b, p.Value...)
	}
	for _, k := range x.Kids {
		b = append(b, k.First[:]...)
		b = binary.BigEndian.AppendUint32(b, uint32(k.Block))
	}
	return append(b, make([]byte, max(0, 512-len(b)))...)
}

// parts is what b tells, if it tells a node's fields, with noughts behind them; these need not be right.
func parts(b []byte) (api.Node, bool) {
	if len(b) != 512 || b[0] != 'W' || b[1] != 'T' {
		return api.Node{}, false
	}
	x := api.Node{Level: int(b[2])}
	n := int(b[3])
	b = b[4:]
	for range n {
		size := 28 // of a kid
		if x.Level == 0 {
			size = 25 // of a pair without a value
		}
		if x.Level == 0 && len(b) >= size {
			size += int(b[24])
		}
		if len(b) < size {
			return api.Node{}, false
		}
		k := api.Key(b[:24])
		if x.Level == 0 {
			x.Pairs = append(x.Pairs, api.Pair{Key: k, Value: string(b[25:size])})
		} else {
			x.Kids = append(x.Kids, api.Kid{First: k, Block: int(binary.BigEndian.Uint32(b[24:]))})
		}
		b = b[size:]
	}
	return x, len(bytes.Trim(b, "\x00")) == 0
}

// may tells whether x is right, in the chapter's words.
func may(x api.Node) bool {
	var keys []string
	used := map[int]bool{}
	for _, p := range x.Pairs {
		keys = append(keys, string(p.Key[:]))
		if len(p.Value) > 40 {
			return false
		}
	}
	for _, k := range x.Kids {
		keys = append(keys, string(k.First[:]))
		if k.Block < 2 || k.Block > math.MaxUint32 || used[k.Block] {
			return false
		}
		used[k.Block] = true
	}
	least, most, other := 1, 7, len(x.Kids)
	if x.Level != 0 {
		least, most, other = 2, 18, len(x.Pairs)
	}
	rising := slices.IsSorted(keys) && len(slices.Compact(slices.Clone(keys))) == len(keys)
	return x.Level >= 0 && x.Level <= 11 && other == 0 && least <= len(keys) && len(keys) <= most && rising
}

// alike tells whether two nodes are the same; no items are none, be they nil or empty.
func alike(x, y api.Node) bool {
	return x.Level == y.Level && len(x.Pairs) == len(y.Pairs) && len(x.Kids) == len(y.Kids) &&
		(len(x.Pairs) == 0 || reflect.DeepEqual(x.Pairs, y.Pairs)) && (len(x.Kids) == 0 || reflect.DeepEqual(x.Kids, y.Kids))
}

// is asks for a node.
func is(t *testing.T, x api.Node, e api.Errno, want api.Node) {
	t.Helper()
	if e != api.OK || !alike(x, want) {
		t.Errorf("%#v, %v; want %#v", x, e, want)
	}
}

// isNone asks for none.
func isNone(t *testing.T, x api.Node, e api.Errno) {
	t.Helper()
	if e != api.ECorrupt || !alike(x, api.Node{}) {
		t.Errorf("%#v, %v; want none, and ECorrupt", x, e)
	}
}

// isWhatItTells asks for the node that b's bytes tell, or for none.
func isWhatItTells(t *testing.T, b []byte) {
	t.Helper()
	x, e := node.Of(b)
	if want, ok := parts(b); ok && may(want) {
		is(t, x, e, want)
	} else {
		isNone(t, x, e)
	}
}

// block is the block of a right node.
func block(t *testing.T, x api.Node) []byte {
	t.Helper()
	b, e := node.Bytes(x)
	if e != api.OK {
		t.Fatalf("%#v: %v", x, e)
	}
	return b
}

// TestLimits (E1): the constants.
func TestLimits(t *testing.T) {
	if node.Leaves != 7 || node.Inners != 18 {
		t.Errorf("%d, %d", node.Leaves, node.Inners)
	}
}

// TestExample (E1): the chapter's example.
func TestExample(t *testing.T) {
	want := "WT\x00\x01" + strings.Repeat("\x00", 24) + "\x01a" + strings.Repeat("\x00", 512-30)
	x := api.Node{Pairs: []api.Pair{{Value: "a"}}}
	if b := block(t, x); string(b) != want {
		t.Errorf("%x", b)
	}
	y, e := node.Of([]byte(want))
	is(t, y, e, x)
}

// TestWrittenOut (E1): blocks of both kinds, byte by byte.
func TestWrittenOut(t *testing.T) {
	k1, k2, k3 := "a key of four and twenty", "a key of four and twentz", "b\xff"+strings.Repeat("\x00", 21)+"\x07"
	for _, c := range []struct {
		x    api.Node
		want string
	}{
		{
			api.Node{Pairs: []api.Pair{{Key: key(k1), Value: forty}, {Key: key(k2)}, {Key: key(k3), Value: "\x00x"}}},
			"WT\x00\x03" + k1 + "\x28" + forty + k2 + "\x00" + k3 + "\x02\x00x",
		},
		{
			api.Node{Level: 11, Kids: []api.Kid{{First: key(k1), Block: 0xa1a2a3a4}, {First: key(k2), Block: 2}, {First: key(k3), Block: 0x010203}}},
			"WT\x0b\x03" + k1 + "\xa1\xa2\xa3\xa4" + k2 + "\x00\x00\x00\x02" + k3 + "\x00\x01\x02\x03",
		},
	} {
		want := c.want + strings.Repeat("\x00", 512-len(c.want))
		if b := block(t, c.x); string(b) != want {
			t.Errorf("%x", b)
		}
		y, e := node.Of([]byte(want))
		is(t, y, e, c.x)
	}
}

// TestRights (E1): a right node is right, has its block, and is what that block is of.
func TestRights(t *testing.T) {
	for _, x := range rights() {
		if !may(x) {
			t.Fatalf("the test's own: %#v", x)
		}
		if !node.Right(x) {
			t.Errorf("not right: %#v", x)
		}
		b, e := node.Bytes(x)
		if e != api.OK || !bytes.Equal(b, raw(x)) {
			t.Errorf("%#v: %x, %v; want %x", x, b, e, raw(x))
		}
		y, e := node.Of(raw(x))
		is(t, y, e, x)
	}
}

// TestWrongs (E1): any other one is not, and has none.
func TestWrongs(t *testing.T) {
	for _, x := range wrongs() {
		if may(x) {
			t.Fatalf("the test's own: %#v", x)
		}
		if node.Right(x) {
			t.Errorf("right: %#v", x)
		}
		if b, e := node.Bytes(x); e != api.EArg || len(b) != 0 {
			t.Errorf("%#v: %d bytes, %v; want EArg", x, len(b), e)
		}
	}
}

// TestBlocksOfWrongs (E1): what stands in a block as a node that is not right would is nobody's block.
func TestBlocksOfWrongs(t *testing.T) {
	for _, x := range wrongs() {
		b := raw(x)
		isWhatItTells(t, b)
		isWhatItTells(t, b[:512])
	}
}

// TestCounts (E1): a block has just as many pairs, or kids, as its count tells.
func TestCounts(t *testing.T) {
	l := []api.Node{fewPairs(), fewKids(), fullLeaf(), fullInner(), leaf("a"), leaf(make([]string, 7)...), inner(1, blocks(18)...)}
	for _, x := range l {
		for n := range 256 {
			b := raw(x)
			b[3] = byte(n)
			y, e := node.Of(b)
			if n == len(x.Pairs)+len(x.Kids) {
				is(t, y, e, x)
			} else {
				isNone(t, y, e)
			}
		}
	}
}

// TestLevels (E1): a block tells its level, and no other level has its bytes, but for those of kids.
func TestLevels(t *testing.T) {
	for level := range 256 {
		b := raw(fewKids())
		b[2] = byte(level)
		y, e := node.Of(b)
		if 1 <= level && level <= 11 {
			is(t, y, e, with(fewKids(), func(x *api.Node) { x.Level = level }))
		} else {
			isNone(t, y, e)
		}
		b = raw(fewPairs())
		b[2] = byte(level)
		isWhatItTells(t, b)
	}
}

// TestRunOver (E1): values, pairs and kids that would go on behind the block's end are nobody's.
func TestRunOver(t *testing.T) {
	for n := range 256 {
		for fill := range 256 {
			for _, level := range []byte{0, 1} {
				b := append([]byte{'W', 'T', level, byte(n)}, bytes.Repeat([]byte{byte(fill)}, 508)...)
				isWhatItTells(t, b)
			}
			b := raw(fewPairs())
			b[4+24] = byte(n)
			copy(b[4+25:], bytes.Repeat([]byte{byte(fill)}, 512))
			isWhatItTells(t, b)
		}
	}
}

// TestSizes (E1): what has not 512 bytes is nobody's block.
func TestSizes(t *testing.T) {
	for _, x := range []api.Node{fewPairs(), fewKids(), fullLeaf(), fullInner(), under(api.Key{})} {
		b := raw(x)
		for n := range 512 {
			y, e := node.Of(b[:n])
			isNone(t, y, e)
			y, e = node.Of(b[512-n:])
			isNone(t, y, e)
		}
		for _, more := range [][]byte{{0}, {1}, make([]byte, 512), b} {
			y, e := node.Of(append(slices.Clone(b), more...))
			isNone(t, y, e)
			y, e = node.Of(append(slices.Clone(more), b...))
			isNone(t, y, e)
		}
	}
	y, e := node.Of(nil)
	isNone(t, y, e)
	for _, fill := range []byte{0, 1, 0xff, 'W', 'T'} {
		y, e = node.Of(bytes.Repeat([]byte{fill}, 512))
		isNone(t, y, e)
	}
}

// TestOtherBytes (E1): with any one byte another one, a block is that of the node that it tells then, or nobody's.
func TestOtherBytes(t *testing.T) {
	for _, x := range []api.Node{fewPairs(), fewKids(), fullLeaf(), fullInner()} {
		b := raw(x)
		for at := range b {
			for v := range 256 {
				c := slices.Clone(b)
				c[at] = byte(v)
				isWhatItTells(t, c)
			}
			// By itself, without the test's own reading: a byte that is another one never tells the same node.
			c := slices.Clone(b)
			c[at] ^= 0x55
			y, e := node.Of(c)
			if e == api.OK && (at < 2 || at == 3 || alike(x, y) || !bytes.Equal(block(t, y), c)) {
				t.Errorf("byte %d is %d: %#v", at, c[at], y)
			}
		}
	}
}

// TestOneByteTold (E1): what stands where is told, just if it is right.
func TestOneByteTold(t *testing.T) {
	for _, c := range []struct {
		of   api.Node
		at   int
		to   byte
		want func(x *api.Node)
	}{
		{fewKids(), 0, 'w', nil},
		{fewKids(), 1, 't', nil},
		{fewKids(), 2, 11, func(x *api.Node) { x.Level = 11 }},
		{fewKids(), 2, 12, nil},
		{fewKids(), 2, 0, nil},
		{fewKids(), 27, 0, func(x *api.Node) { x.Kids[0].First = api.Key{} }},
		{fewKids(), 27, 2, nil}, // alike
		{fewKids(), 27, 3, nil},
		{fewKids(), 4, 1, nil},
		{fewKids(), 31, 8, func(x *api.Node) { x.Kids[0].Block = 8 }},
		{fewKids(), 31, 2, nil}, // the third kid has it
		{fewKids(), 31, 1, nil},
		{fewKids(), 28, 0xff, func(x *api.Node) { x.Kids[0].Block = 0xff000009 }},
		{fewKids(), 4 + 4*28, 1, nil},
		{fewKids(), 511, 1, nil},
		{fewPairs(), 28, 2, nil},
		{fewPairs(), 29, 'O', func(x *api.Node) { x.Pairs[0].Value = "One" }},
		{fewPairs(), 27, 0, func(x *api.Node) { x.Pairs[0].Key = api.Key{} }},
		{fewPairs(), 27, 2, nil},
		{fewPairs(), 511, 1, nil},
	} {
		b, want := raw(c.of), c.of
		b[c.at] = c.to
		x, e := node.Of(b)
		if c.want == nil {
			isNone(t, x, e)
		} else {
			c.want(&want)
			is(t, x, e, want)
		}
	}
}

// copied is x in memory of its own.
func copied(x api.Node) api.Node {
	x.Pairs, x.Kids = slices.Clone(x.Pairs), slices.Clone(x.Kids)
	return x
}

// TestOwners (R1): what is handed in stays, and what comes out is its owner's.
func TestOwners(t *testing.T) {
	for _, x := range []api.Node{fewPairs(), fewKids(), fullLeaf(), fullInner()} {
		was := copied(x)
		b := block(t, x)
		node.Right(x)
		node.First(x)
		node.Same(x, x)
		if !reflect.DeepEqual(x, was) {
			t.Errorf("changed: %#v", x)
		}
		for i := range x.Pairs {
			x.Pairs[i] = api.Pair{}
		}
		for i := range x.Kids {
			x.Kids[i] = api.Kid{}
		}
		if !bytes.Equal(b, raw(was)) {
			t.Errorf("a block that was answered has changed: %x", b)
		}
		y, e := node.Of(b)
		if !bytes.Equal(b, raw(was)) {
			t.Errorf("changed: %x", b)
		}
		clear(b)
		is(t, y, e, was)
		if again := block(t, was); !bytes.Equal(again, raw(was)) {
			t.Errorf("a block is not made anew: %x", again)
		}
	}
}

// TestAnswersApart (R1, R4): the same call answers the same, each time in memory of its own.
func TestAnswersApart(t *testing.T) {
	for _, x := range []api.Node{fewPairs(), fewKids()} {
		b, c := block(t, x), block(t, x)
		clear(b)
		if !bytes.Equal(c, raw(x)) {
			t.Errorf("%x", c)
		}
		y, _ := node.Of(c)
		z, e := node.Of(c)
		for i := range y.Pairs {
			y.Pairs[i] = api.Pair{}
		}
		for i := range y.Kids {
			y.Kids[i] = api.Kid{}
		}
		is(t, z, e, x)
		// What is appended to two beginnings of one list stands in each.
		p, q := append(z.Pairs, api.Pair{Value: "p"}), append(z.Pairs, api.Pair{Value: "q"})
		k, l := append(z.Kids, api.Kid{Block: 5}), append(z.Kids, api.Kid{Block: 6})
		if p[len(p)-1].Value != "p" || q[len(q)-1].Value != "q" || k[len(k)-1].Block != 5 || l[len(l)-1].Block != 6 {
			t.Errorf("%#v: room is left behind its list", x)
		}
	}
}
