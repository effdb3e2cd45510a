package tree_test

import (
	"testing"

	"wainscot/api"
	"wainscot/tree"
)

// stubborn is blocks that always answer the same.
type stubborn struct {
	x    api.Node
	free bool
}

func (s stubborn) Get(n int) (api.Node, api.Errno) { return s.x, api.OK }

func (s stubborn) Put(x api.Node) (int, api.Errno) { return 2, api.OK }

func (s stubborn) Inc(n int) api.Errno { return api.OK }

func (s stubborn) Dec(n int) (bool, api.Errno) { return s.free, api.OK }

// tries makes all calls: none of them panics, all end (R2).
func tries(b tree.Blocks, root int) {
	for _, k := range []api.Key{{}, late(1), late(2), late(9), highest()} {
		tree.Get(b, root, k)
		tree.Scan(b, root, api.Span{From: k, End: true})
		tree.Scan(b, root, api.Span{To: k})
		tree.Apply(b, root, []api.Change{put(k, "new")})
		tree.Apply(b, root, []api.Change{gone(k)})
	}
	tree.Scan(b, root, all)
	tree.Apply(b, root, nil)
	tree.Apply(b, root, []api.Change{gone(late(1)), gone(late(2)), gone(late(3)), gone(late(4)), gone(late(5)), gone(late(6)), gone(late(7))})
	tree.Check(b, root)
	tree.Clone(b, root)
	tree.Release(b, root)
}

// TestNoBlocks (R2): where none are handed in, there is none.
func TestNoBlocks(t *testing.T) {
	for _, root := range nowhere() {
		tries(nil, root)
	}
	gets(t, nil, 0, late(1), "", false)
	scans(t, nil, 0, all, nil)
	if n, e := tree.Apply(nil, 0, nil); n != 0 || e != api.OK {
		t.Errorf("Apply: %d %v", n, e)
	}
	if n, e := tree.Apply(nil, 0, []api.Change{put(late(1), "a")}); n != 0 || e == api.OK {
		t.Errorf("Apply: %d %v", n, e)
	}
	for _, e := range []api.Errno{tree.Clone(nil, 2), tree.Release(nil, 2), tree.Check(nil, 2)} {
		if e == api.OK {
			t.Errorf("a tree of no blocks is held")
		}
	}
}

// TestStubborn (R2): whatever nodes b has, right or not, and whatever it says is free.
func TestStubborn(t *testing.T) {
	full := inner(1, 2, 3, 4, 5, 6, 7, 8, 9, 10, 11, 12, 13, 14, 15, 16, 17, 18, 19)
	nodes := append(wrongs(), leaf("a"), leaf("a", "b", "c", "d", "e", "f", "g"), inner(1, 2, 3), inner(2, 2, 3), inner(11, 2, 3), full)
	for _, x := range nodes {
		for _, free := range []bool{false, true} {
			for _, root := range []int{-1, 1, 2, 3} {
				tries(stubborn{x, free}, root)
			}
		}
	}
}

// TestWrongTrees (R2): trees that are not right, of blocks that count as they should: the root is twisted, or the first or the last of the others.
func TestWrongTrees(t *testing.T) {
	t.Parallel()
	for _, size := range []int{9, 72} {
		for _, w := range twists() {
			for turn := 1; turn < 6; turn++ {
				s := newShelf()
				root := grow(t, s, pairs(late, size), thin)
				at := root
				for range turn / 2 {
					if kids := s.nodes[at].Kids; len(kids) > 0 {
						at = kids[turn%2*(len(kids)-1)].Block
					}
				}
				x := s.nodes[at]
				w.do(&x)
				s.nodes[at] = x
				tries(s, root)
			}
		}
	}
}

// TestLoop (R2): blocks that are kids of each other, or kids of many, at each level.
func TestLoop(t *testing.T) {
	s := newShelf()
	a, b := must(t, s, inner(1, 2, 3)), must(t, s, inner(1, 2, 3))
	s.nodes[a], s.nodes[b] = inner(1, a, b), inner(1, b, a)
	tries(s, a)

	s = newShelf()
	var row []api.Kid
	for i := range 18 {
		p := pairs(late, 7)
		for j := range p {
			p[j].Key = late(100*i + j)
		}
		row = append(row, api.Kid{First: p[0].Key, Block: must(t, s, api.Node{Pairs: p})})
	}
	for level := 1; level < 12; level++ {
		var above []api.Kid
		for i := range 18 {
			above = append(above, api.Kid{First: row[i].First, Block: must(t, s, api.Node{Level: level, Kids: row})})
		}
		row = above
	}
	tries(s, row[0].Block)
}
