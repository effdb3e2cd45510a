package tree_test

import (
	"math"
	"slices"
	"testing"

	"wainscot/api"
	"wainscot/node"
	"wainscot/tree"
)

// leaf has a pair for each of these values, under 1, 2, 3 and so on.
func leaf(values ...string) api.Node {
	var x api.Node
	for i, v := range values {
		x.Pairs = append(x.Pairs, api.Pair{Key: late(i + 1), Value: v})
	}
	return x
}

// inner has a kid for each of these blocks, under 1, 2, 3 and so on.
func inner(level int, blocks ...int) api.Node {
	x := api.Node{Level: level}
	for i, b := range blocks {
		x.Kids = append(x.Kids, api.Kid{First: late(i + 1), Block: b})
	}
	return x
}

// wrongs are nodes that are not right.
func wrongs() []api.Node {
	both := leaf("a", "b")
	both.Kids = inner(1, 2, 3).Kids
	falling := leaf("a", "b", "c")
	slices.Reverse(falling.Pairs)
	alike := leaf("a", "b", "c")
	alike.Pairs[1].Key = alike.Pairs[0].Key
	back := inner(1, 2, 3)
	slices.Reverse(back.Kids)
	high := inner(1, 2, 3)
	high.Pairs = leaf("a").Pairs
	return []api.Node{
		{}, {Level: 1}, {Level: 11}, both, high, falling, alike, back,
		leaf("a", "", "", "", "", "", "", "b"), leaf("a", fortyOne),
		inner(1, 2), inner(2, 2, 3, 4, 3), inner(1, 0, 3), inner(1, 2, 1), inner(1, 2, 1<<32), inner(1, -2, 3),
		inner(-1, 2, 3), inner(0, 2, 3), inner(12, 2, 3),
		inner(1, 2, 3, 4, 5, 6, 7, 8, 9, 10, 11, 12, 13, 14, 15, 16, 17, 18, 19, 20),
		{Level: 1, Pairs: leaf("a").Pairs}, {Level: -1, Pairs: leaf("a").Pairs}, {Level: 12, Pairs: leaf("a").Pairs},
	}
}

// nowhere are numbers that no block has, where none was put.
func nowhere() []int {
	return []int{math.MinInt, -1 << 32, -3, -2, -1, 0, 1, 2, 3, 4, 1 << 20, 1<<20 + 1, 1<<20 + 2, 1 << 32, 1<<32 + 2, math.MaxInt}
}

// has asks for what a memory says of a block.
func has(t *testing.T, m *tree.Memory, n int, x api.Node, count int) {
	t.Helper()
	got, e := m.Get(n)
	if e != api.OK || !node.Same(got, x) || m.Count(n) != count {
		t.Fatalf("block %d: %v %v, counted %d; want %v, %d", n, got, e, m.Count(n), x, count)
	}
}

// hasNot asks that there is no such block, and that nothing comes of asking for it.
func hasNot(t *testing.T, m *tree.Memory, n int) {
	t.Helper()
	free := m.Free()
	if x, e := m.Get(n); e != api.ECorrupt || x.Level != 0 || len(x.Pairs)+len(x.Kids) != 0 {
		t.Errorf("Get %d: %v %v", n, x, e)
	}
	if e := m.Inc(n); e != api.EArg {
		t.Errorf("Inc %d: %v", n, e)
	}
	if f, e := m.Dec(n); f || e != api.EArg {
		t.Errorf("Dec %d: %v %v", n, f, e)
	}
	if m.Count(n) != 0 || m.Free() != free {
		t.Errorf("%d: counted %d, %d free; want %d", n, m.Count(n), m.Free(), free)
	}
}

// TestMemoryRoom (G1): for how many there is room.
func TestMemoryRoom(t *testing.T) {
	for _, x := range [][2]int{
		{math.MinInt, 0}, {-1 << 32, 0}, {-2, 0}, {-1, 0}, {0, 0}, {1, 1}, {2, 2}, {3, 3}, {700, 700},
		{1<<20 - 1, 1<<20 - 1}, {1 << 20, 1 << 20}, {1<<20 + 1, 1 << 20}, {1 << 32, 1 << 20}, {1<<32 + 3, 1 << 20}, {math.MaxInt - 1, 1 << 20}, {math.MaxInt, 1 << 20},
	} {
		m := tree.NewMemory(x[0])
		if m.Free() != x[1] {
			t.Errorf("NewMemory %d: %d free; want %d", x[0], m.Free(), x[1])
		}
		for _, n := range nowhere() {
			hasNot(t, m, n)
		}
	}
}

// TestMemoryFull (G1): Put until there is no room, and again where one is free.
func TestMemoryFull(t *testing.T) {
	for _, most := range []int{-1, 0, 1, 2, 3, 40} {
		m := tree.NewMemory(most)
		for i := range max(most, 0) {
			if n, e := m.Put(leaf(word(i))); n != i+2 || e != api.OK || m.Free() != most-1-i {
				t.Fatalf("Put: %d %v, %d free", n, e, m.Free())
			}
		}
		if n, e := m.Put(leaf("x")); n != 0 || e != api.ESpace || m.Free() != 0 {
			t.Fatalf("Put: %d %v, %d free", n, e, m.Free())
		}
		for i := range max(most, 0) {
			has(t, m, i+2, leaf(word(i)), 1)
			if free, e := m.Dec(i + 2); !free || e != api.OK || m.Free() != 1 {
				t.Fatalf("Dec: %v %v", free, e)
			}
			hasNot(t, m, i+2)
			if n, e := m.Put(inner(3, 9, 8)); n != i+2 || e != api.OK {
				t.Fatalf("Put: %d %v", n, e)
			}
			has(t, m, i+2, inner(3, 9, 8), 1)
		}
	}
}

// TestMemoryNumbers (G1): a new block has the least number that none has.
func TestMemoryNumbers(t *testing.T) {
	m := tree.NewMemory(6)
	puts := func(want int) {
		t.Helper()
		if n, e := m.Put(leaf(word(want))); n != want || e != api.OK {
			t.Fatalf("Put: %d %v; want %d", n, e, want)
		}
	}
	for n := 2; n < 7; n++ {
		puts(n)
	}
	for _, n := range []int{5, 3, 4} {
		m.Dec(n)
	}
	for _, n := range []int{3, 4, 5, 7} {
		puts(n)
	}
	m.Inc(4)
	m.Dec(4)
	m.Dec(6)
	m.Dec(2)
	puts(2)
	puts(6)
	if m.Free() != 0 {
		t.Errorf("%d free", m.Free())
	}
}

// TestMemoryWrong (G1): nodes that are not right are refused, whether there is room or not.
func TestMemoryWrong(t *testing.T) {
	for _, most := range []int{0, 1, 2, 9} {
		m := tree.NewMemory(most)
		if most > 1 {
			must(t, m, leaf("a"))
		}
		was := m.Free()
		for _, x := range wrongs() {
			if n, e := m.Put(x); n != 0 || e != api.EArg || m.Free() != was {
				t.Errorf("Put %v: %d %v, %d free", x, n, e, m.Free())
			}
		}
		if most > 1 {
			has(t, m, 2, leaf("a"), 1)
		}
	}
}

// TestMemoryCounts (G1): how many need a block; it stays until none does.
func TestMemoryCounts(t *testing.T) {
	m := tree.NewMemory(5)
	must(t, m, leaf("a"))
	must(t, m, leaf("b"))
	for i := 2; i < 5; i++ {
		if e := m.Inc(2); e != api.OK {
			t.Fatalf("Inc: %v", e)
		}
		has(t, m, 2, leaf("a"), i)
	}
	for i := 3; i > 0; i-- {
		if free, e := m.Dec(2); free || e != api.OK {
			t.Fatalf("Dec: %v %v", free, e)
		}
		has(t, m, 2, leaf("a"), i)
		if m.Free() != 3 {
			t.Fatalf("%d free", m.Free())
		}
	}
	if free, e := m.Dec(2); !free || e != api.OK || m.Free() != 4 {
		t.Fatalf("Dec: %v %v, %d free", free, e, m.Free())
	}
	hasNot(t, m, 2)
	has(t, m, 3, leaf("b"), 1)
}

// TestMemoryKids (G1): what a node's kids are is not looked at.
func TestMemoryKids(t *testing.T) {
	m := tree.NewMemory(5)
	must(t, m, leaf("a"))
	n := must(t, m, inner(11, 2, 99, 3, 1<<32-1))
	has(t, m, 2, leaf("a"), 1)
	has(t, m, n, inner(11, 2, 99, 3, 1<<32-1), 1)
	m.Inc(n)
	m.Dec(n)
	m.Dec(n)
	has(t, m, 2, leaf("a"), 1)
	if m.Free() != 4 {
		t.Errorf("%d free", m.Free())
	}
}

// TestMemoryKeepsApart (R1): neither what is put nor what is got hangs on what is within.
func TestMemoryKeepsApart(t *testing.T) {
	m := tree.NewMemory(5)
	x, y := leaf("a", "b"), inner(2, 5, 6, 7)
	x.Pairs, y.Kids = slices.Grow(x.Pairs, 8), slices.Grow(y.Kids, 20)
	a, b := must(t, m, x), must(t, m, y)
	x.Pairs[0].Value, y.Kids[1].Block = "other", 99
	has(t, m, a, leaf("a", "b"), 1)
	has(t, m, b, inner(2, 5, 6, 7), 1)
	x, _ = m.Get(a)
	y, _ = m.Get(b)
	x.Pairs[1].Key, y.Kids[0].First = late(9), late(9)
	_ = append(append(x.Pairs, x.Pairs...)[:1], leaf("z", "z").Pairs...)
	_ = append(append(y.Kids, y.Kids...)[:1], inner(1, 9, 9).Kids...)
	has(t, m, a, leaf("a", "b"), 1)
	has(t, m, b, inner(2, 5, 6, 7), 1)
}

// TestMemoriesApart (R3): two have nothing to do with each other.
func TestMemoriesApart(t *testing.T) {
	m, o := tree.NewMemory(3), tree.NewMemory(3)
	must(t, m, leaf("a"))
	hasNot(t, o, 2)
	must(t, o, leaf("b"))
	m.Inc(2)
	o.Dec(2)
	has(t, m, 2, leaf("a"), 2)
	hasNot(t, o, 2)
}

// plain is the chapter's words of a memory: of each block its node and its count.
type plain struct {
	most   int
	nodes  []api.Node
	counts []int
}

func newPlain(most int) *plain {
	return &plain{most: most, nodes: make([]api.Node, most+2), counts: make([]int, most+2)}
}

func (p *plain) has(n int) bool { return 2 <= n && n < len(p.counts) && p.counts[n] > 0 }

func (p *plain) put(x api.Node) (int, api.Errno) {
	for n := 2; n < len(p.counts); n++ {
		if p.counts[n] == 0 {
			p.nodes[n], p.counts[n] = x, 1
			return n, api.OK
		}
	}
	return 0, api.ESpace
}

func (p *plain) add(n, by int) (bool, api.Errno) {
	if !p.has(n) {
		return false, api.EArg
	}
	p.counts[n] += by
	return p.counts[n] == 0, api.OK
}

// TestMemoryRows (G1): long rows of calls, held against plain.
func TestMemoryRows(t *testing.T) {
	for _, most := range []int{0, 1, 2, 5, 30} {
		m, p, next := tree.NewMemory(most), newPlain(most), numbers(uint32(most))
		for i := range 3000 {
			n := next(most + 4)
			switch next(3) {
			case 0:
				x := leaf(word(i))
				got, e := m.Put(x)
				if want, err := p.put(x); got != want || e != err {
					t.Fatalf("Put: %d %v; want %d %v", got, e, want, err)
				}
			case 1:
				e := m.Inc(n)
				if _, err := p.add(n, 1); e != err {
					t.Fatalf("Inc %d: %v; want %v", n, e, err)
				}
			default:
				got, e := m.Dec(n)
				if want, err := p.add(n, -1); got != want || e != err {
					t.Fatalf("Dec %d: %v %v; want %v %v", n, got, e, want, err)
				}
			}
			free := most
			for n := range most + 4 {
				if !p.has(n) {
					hasNot(t, m, n)
					continue
				}
				has(t, m, n, p.nodes[n], p.counts[n])
				free--
			}
			if m.Free() != free {
				t.Fatalf("%d free; want %d", m.Free(), free)
			}
		}
	}
}
