package tree_test

import (
	"maps"
	"slices"
	"testing"

	"wainscot/api"
	"wainscot/tree"
)

// TestClone (G4): the root counts once more, and nothing else does.
func TestClone(t *testing.T) {
	m := tree.NewMemory(300)
	root := grow(t, m, pairs(late, 200), thin)
	for i := range 4 {
		want := counts(m, 300)
		want[root]++
		if e := tree.Clone(m, root); e != api.OK || !maps.Equal(counts(m, 300), want) {
			t.Fatalf("Clone %d: %v, %v; want %v", i, e, counts(m, 300), want)
		}
	}
	is(t, m, root, pairs(late, 200))
	for range 5 {
		audit(t, m, 300, slices.Repeat([]int{root}, m.Count(root))...)
		release(t, m, root)
	}
	audit(t, m, 300)
}

// TestHoldNothing (G4): of the tree 0 there is nothing to hold, and b is not asked.
func TestHoldNothing(t *testing.T) {
	f := &faulty{Blocks: newShelf(), err: api.EIO}
	if e := tree.Clone(f, 0); e != api.OK {
		t.Errorf("Clone: %v", e)
	}
	if e := tree.Release(f, 0); e != api.OK {
		t.Errorf("Release: %v", e)
	}
	if e := tree.Check(f, 0); e != api.OK {
		t.Errorf("Check: %v", e)
	}
}

// TestRelease (G4): a tree that is held by one alone goes as a whole, of whatever shape it is.
func TestRelease(t *testing.T) {
	for _, into := range []func(int, int, int) int{thin, fat} {
		for _, n := range []int{0, 1, 7, 8, 60, 500, 2268} {
			m := tree.NewMemory(1200)
			other := grow(t, m, pairs(middle, 30), into)
			root := grow(t, m, pairs(late, n), into)
			release(t, m, root)
			audit(t, m, 1200, other)
			is(t, m, other, pairs(middle, 30))
		}
	}
}

// TestReleaseShared (G4): a block that others need stays, with all below it; only what is free then holds its kids no more.
func TestReleaseShared(t *testing.T) {
	m := tree.NewMemory(600)
	l := pairs(late, 500)
	root := grow(t, m, l, thin)
	x, _ := m.Get(root)
	kid := x.Kids[1].Block
	tree.Clone(m, kid)
	below, _ := m.Get(kid)
	leaf := below.Kids[2].Block
	tree.Clone(m, leaf)
	pairsOf, leafPairs := meaning(t, m, kid), meaning(t, m, leaf)
	release(t, m, root)
	audit(t, m, 600, kid, leaf)
	is(t, m, kid, pairsOf)
	release(t, m, kid)
	audit(t, m, 600, leaf)
	is(t, m, leaf, leafPairs)
	release(t, m, leaf)
	audit(t, m, 600)
}

// orders are all orders of the numbers below n.
func orders(n int) [][]int {
	if n == 0 {
		return [][]int{nil}
	}
	var l [][]int
	for _, o := range orders(n - 1) {
		for at := range n {
			l = append(l, slices.Insert(slices.Clone(o), at, n-1))
		}
	}
	return l
}

// TestReleaseOrders (What follows): trees that share blocks, released in each order: those that are still held mean what they did; in the end no block is left.
func TestReleaseOrders(t *testing.T) {
	const most = 600
	l := pairs(late, 300)
	for _, order := range orders(5) {
		m := tree.NewMemory(most)
		held := []int{grow(t, m, l, thin)}
		means := [][]api.Pair{l}
		for i, c := range [][]api.Change{
			{put(late(100), "new"), gone(l[7].Key)}, gones(l[30:200]), {gone(late(0))}, append(gones(l[:150]), put(highest(), "z")),
		} {
			from := i / 2
			n, e := tree.Apply(m, held[from], c)
			if e != api.OK {
				t.Fatal(e)
			}
			held, means = append(held, n), append(means, applied(means[from], c))
		}
		for i, at := range order {
			release(t, m, held[at])
			var left []int
			for _, o := range order[i+1:] {
				left = append(left, held[o])
				is(t, m, held[o], means[o])
			}
			audit(t, m, most, left...)
		}
		if m.Free() != most {
			t.Fatalf("%v: %d free", order, m.Free())
		}
	}
}

// TestHoldErrors (G4): the first error of b is told.
func TestHoldErrors(t *testing.T) {
	for _, err := range errnos() {
		s := newShelf()
		root := grow(t, s, pairs(late, 60), thin)
		was := maps.Clone(s.counts)
		if e := tree.Clone(&faulty{Blocks: s, err: err}, root); e != err || !maps.Equal(s.counts, was) {
			t.Errorf("Clone: %v; want %v", e, err)
		}
		for at := 0; ; at++ {
			s := newShelf()
			root := grow(t, s, pairs(late, 60), thin)
			was := maps.Clone(s.counts)
			f := &faulty{Blocks: s, at: at, err: err}
			e := tree.Release(f, root)
			if f.calls <= at {
				if e != api.OK || len(s.nodes) != 0 {
					t.Errorf("Release: %v, %v left", e, s.counts)
				}
				break
			}
			if e != err {
				t.Errorf("Release, call %d: %v; want %v", at, e, err)
			}
			if at < 2 && !maps.Equal(s.counts, was) {
				t.Errorf("Release, call %d: %v; was %v", at, s.counts, was)
			}
		}
	}
}

// TestHoldNone (G4): trees whose root there is not.
func TestHoldNone(t *testing.T) {
	m := tree.NewMemory(9)
	must(t, m, leaf("a"))
	for _, root := range nowhere() {
		if root == 0 || root == 2 {
			continue
		}
		if e := tree.Clone(m, root); e != api.EArg {
			t.Errorf("Clone %d: %v", root, e)
		}
		if e := tree.Release(m, root); e != api.ECorrupt {
			t.Errorf("Release %d: %v", root, e)
		}
		if e := tree.Check(m, root); e != api.ECorrupt {
			t.Errorf("Check %d: %v", root, e)
		}
		audit(t, m, 9, 2)
	}
}

// TestReleaseWrong (G4): a tree that is not right is released like any other one.
func TestReleaseWrong(t *testing.T) {
	m := tree.NewMemory(30)
	a, b := must(t, m, leaf("a")), must(t, m, leaf("b"))
	c := must(t, m, inner(5, a, b))
	d := must(t, m, inner(7, c, must(t, m, leaf("d"))))
	release(t, m, d)
	audit(t, m, 30)
}
