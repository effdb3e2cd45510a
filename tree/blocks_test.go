package tree_test

import (
	"bytes"
	"encoding/binary"
	"maps"
	"slices"
	"strconv"
	"strings"
	"testing"

	"wainscot/api"
	"wainscot/node"
	"wainscot/tree"
)

var (
	forty    = strings.Repeat("forty byte", 4)
	fortyOne = forty + "s"
	all      = api.Span{End: true}
)

// late, middle and early are keys that rise with n: at their end, in the middle (with what falls behind it), at their beginning (likewise).
func late(n int) (k api.Key) {
	binary.BigEndian.PutUint64(k[16:], uint64(n))
	return k
}

func middle(n int) (k api.Key) {
	copy(k[:], "alike ah")
	binary.BigEndian.PutUint64(k[8:], uint64(n))
	binary.BigEndian.PutUint64(k[16:], ^uint64(n))
	return k
}

func early(n int) (k api.Key) {
	binary.BigEndian.PutUint64(k[:], uint64(n))
	binary.BigEndian.PutUint64(k[12:], ^uint64(n))
	return k
}

func word(n int) string { return "v" + strconv.Itoa(n) }

// pairs are those of n keys, the odd ones from 1 on: there is one between each two.
func pairs(key func(int) api.Key, n int) []api.Pair {
	var l []api.Pair
	for i := range n {
		l = append(l, api.Pair{Key: key(2*i + 1), Value: word(2*i + 1)})
	}
	return l
}

func put(k api.Key, value string) api.Change { return api.Change{Key: k, Value: value} }

func gone(k api.Key) api.Change { return api.Change{Key: k, Gone: true} }

// puts and gones are changes of all these pairs.
func puts(l []api.Pair) []api.Change {
	var c []api.Change
	for _, p := range l {
		c = append(c, put(p.Key, p.Value))
	}
	return c
}

func gones(l []api.Pair) []api.Change {
	var c []api.Change
	for _, p := range l {
		c = append(c, gone(p.Key))
	}
	return c
}

func compare(x, y api.Key) int { return bytes.Compare(x[:], y[:]) }

// applied is what pairs are with changes, by a map.
func applied(l []api.Pair, changes []api.Change) []api.Pair {
	m := map[api.Key]string{}
	for _, p := range l {
		m[p.Key] = p.Value
	}
	for _, c := range changes {
		if c.Gone {
			delete(m, c.Key)
		} else {
			m[c.Key] = c.Value
		}
	}
	var now []api.Pair
	for _, k := range slices.SortedFunc(maps.Keys(m), compare) {
		now = append(now, api.Pair{Key: k, Value: m[k]})
	}
	return now
}

// numbers is a source of numbers, always the same ones.
func numbers(seed uint32) func(below int) int {
	return func(below int) int {
		seed = seed*1664525 + 1013904223
		return int(seed>>8) % below
	}
}

// shelf is blocks of the tests' own: it takes nodes as they are, right or not, and numbers them down from a great one.
type shelf struct {
	nodes  map[int]api.Node
	counts map[int]int
	next   int
}

func newShelf() *shelf {
	return &shelf{nodes: map[int]api.Node{}, counts: map[int]int{}, next: 1<<32 - 1}
}

func (s *shelf) Get(n int) (api.Node, api.Errno) {
	x, ok := s.nodes[n]
	if !ok {
		return api.Node{}, api.ECorrupt
	}
	return x, api.OK
}

func (s *shelf) Put(x api.Node) (int, api.Errno) {
	n := s.next
	s.next -= 3
	s.nodes[n], s.counts[n] = x, 1
	return n, api.OK
}

func (s *shelf) Inc(n int) api.Errno {
	if s.counts[n] == 0 {
		return api.EArg
	}
	s.counts[n]++
	return api.OK
}

func (s *shelf) Dec(n int) (bool, api.Errno) {
	if s.counts[n] == 0 {
		return false, api.EArg
	}
	s.counts[n]--
	if s.counts[n] > 0 {
		return false, api.OK
	}
	delete(s.counts, n)
	delete(s.nodes, n)
	return true, api.OK
}

// faulty is blocks whose calls fail from the one of this number on (from 0 on): that one with err, those behind it with EConflict, but if it fails once alone. With careful, Dec does not count, and never fails.
type faulty struct {
	tree.Blocks
	at      int
	err     api.Errno
	once    bool
	careful bool
	calls   int
}

func (f *faulty) fails() api.Errno {
	f.calls++
	switch {
	case f.calls == f.at+1:
		return f.err
	case f.calls > f.at && !f.once:
		return api.EConflict
	default:
		return api.OK
	}
}

func (f *faulty) Get(n int) (api.Node, api.Errno) {
	if e := f.fails(); e != api.OK {
		return api.Node{}, e
	}
	return f.Blocks.Get(n)
}

func (f *faulty) Put(x api.Node) (int, api.Errno) {
	if e := f.fails(); e != api.OK {
		return 0, e
	}
	return f.Blocks.Put(x)
}

func (f *faulty) Inc(n int) api.Errno {
	if e := f.fails(); e != api.OK {
		return e
	}
	return f.Blocks.Inc(n)
}

func (f *faulty) Dec(n int) (bool, api.Errno) {
	if !f.careful {
		if e := f.fails(); e != api.OK {
			return false, e
		}
	}
	return f.Blocks.Dec(n)
}

// must puts a node.
func must(t *testing.T, b tree.Blocks, x api.Node) int {
	t.Helper()
	n, e := b.Put(x)
	if e != api.OK {
		t.Fatalf("Put %v: %v", x, e)
	}
	return n
}

// cut cuts a list into n pieces, the greater ones last.
func cut[T any](l []T, n int) [][]T {
	var pieces [][]T
	for i := range n {
		from, to := len(l)*i/n, len(l)*(i+1)/n
		pieces = append(pieces, l[from:to:to])
	}
	return pieces
}

// thin and fat tell into how many nodes so many items go that each has as few, or as many, as may be.
func thin(items, least, most int) int { return max(1, items/least) }

func fat(items, least, most int) int { return (items + most - 1) / most }

// grow is a right tree of these pairs, made by hand.
func grow(t *testing.T, b tree.Blocks, l []api.Pair, into func(items, least, most int) int) int {
	t.Helper()
	if len(l) == 0 {
		return 0
	}
	var row []api.Kid
	for _, p := range cut(l, into(len(l), 3, 7)) {
		row = append(row, api.Kid{First: p[0].Key, Block: must(t, b, api.Node{Pairs: p})})
	}
	for level := 1; len(row) > 1; level++ {
		var above []api.Kid
		for _, k := range cut(row, into(len(row), 9, 18)) {
			above = append(above, api.Kid{First: k[0].First, Block: must(t, b, api.Node{Level: level, Kids: k})})
		}
		row = above
	}
	return row[0].Block
}

// isRight is the chapter's words: whether a tree is right.
func isRight(b tree.Blocks, root int) bool {
	if root == 0 {
		return true
	}
	x, e := b.Get(root)
	if e != api.OK || !node.Right(x) {
		return false
	}
	_, ok := keysBelow(b, x, nil)
	return ok
}

// keysBelow are all keys in a node and below it, if all is right there, and all of them are below these bounds.
func keysBelow(b tree.Blocks, x api.Node, bounds []api.Key) ([]api.Key, bool) {
	var keys []api.Key
	for _, p := range x.Pairs {
		keys = append(keys, p.Key)
	}
	for i, kid := range x.Kids {
		keys = append(keys, kid.First)
		y, e := b.Get(kid.Block)
		if e != api.OK || !node.Right(y) || y.Level != x.Level-1 || node.First(y) != kid.First {
			return nil, false
		}
		if y.Level == 0 && len(y.Pairs) < 3 || y.Level > 0 && len(y.Kids) < 9 {
			return nil, false
		}
		inner := slices.Clone(bounds)
		if i+1 < len(x.Kids) {
			inner = append(inner, x.Kids[i+1].First)
		}
		more, ok := keysBelow(b, y, inner)
		if !ok {
			return nil, false
		}
		keys = append(keys, more...)
	}
	for _, k := range keys {
		for _, bound := range bounds {
			if compare(k, bound) >= 0 {
				return nil, false
			}
		}
	}
	return keys, true
}

// meaning is the pairs of all leaves, in order.
func meaning(t *testing.T, b tree.Blocks, root int) []api.Pair {
	t.Helper()
	var l []api.Pair
	var walk func(n int)
	walk = func(n int) {
		x, e := b.Get(n)
		if e != api.OK {
			t.Fatalf("block %d: %v", n, e)
		}
		l = append(l, x.Pairs...)
		for _, kid := range x.Kids {
			walk(kid.Block)
		}
	}
	if root != 0 {
		walk(root)
	}
	return l
}

// is asks that a tree is right, and means these pairs.
func is(t *testing.T, b tree.Blocks, root int, want []api.Pair) {
	t.Helper()
	if !isRight(b, root) {
		t.Fatalf("the tree %d is not right", root)
	}
	if e := tree.Check(b, root); e != api.OK {
		t.Fatalf("Check %d: %v, though it is right", root, e)
	}
	if got := meaning(t, b, root); !slices.Equal(got, want) {
		t.Fatalf("the tree %d means %v; want %v", root, got, want)
	}
}

// needs is how many need each block, if these trees are held.
func needs(t *testing.T, b tree.Blocks, held ...int) map[int]int {
	t.Helper()
	counts := map[int]int{}
	var need func(n int)
	need = func(n int) {
		counts[n]++
		if counts[n] > 1 {
			return
		}
		x, e := b.Get(n)
		if e != api.OK {
			t.Fatalf("block %d: %v", n, e)
		}
		for _, kid := range x.Kids {
			need(kid.Block)
		}
	}
	for _, root := range held {
		if root != 0 {
			need(root)
		}
	}
	return counts
}

// counts is how many need each block of a memory of so many.
func counts(m *tree.Memory, most int) map[int]int {
	c := map[int]int{}
	for n := -2; n < most+4; n++ {
		if m.Count(n) != 0 {
			c[n] = m.Count(n)
		}
	}
	return c
}

// audit asks that each block of a memory of so many counts as often as it is needed, if these trees are held.
func audit(t *testing.T, m *tree.Memory, most int, held ...int) {
	t.Helper()
	want := needs(t, m, held...)
	if got := counts(m, most); !maps.Equal(got, want) || m.Free() != most-len(want) {
		t.Fatalf("%d free, counts %v; want %v", m.Free(), got, want)
	}
}

// apply asks for a tree that means what it must, and that counts are right then; the trees that were held mean what they did.
func apply(t *testing.T, m *tree.Memory, most, root int, l []api.Change, held ...int) int {
	t.Helper()
	was := meaning(t, m, root)
	n, e := tree.Apply(m, root, l)
	if e != api.OK {
		t.Fatalf("Apply %d, %v: %v", root, l, e)
	}
	is(t, m, n, applied(was, l))
	if got := meaning(t, m, root); !slices.Equal(got, was) {
		t.Fatalf("Apply %d, %v: now it means %v; was %v", root, l, got, was)
	}
	audit(t, m, most, append(held, n)...)
	return n
}

func release(t *testing.T, b tree.Blocks, root int) {
	t.Helper()
	if e := tree.Release(b, root); e != api.OK {
		t.Fatalf("Release %d: %v", root, e)
	}
}

// errnos are all of them but OK.
func errnos() []api.Errno {
	var l []api.Errno
	for e := api.EArg; e <= api.EState; e++ {
		l = append(l, e)
	}
	return l
}
