package tree_test

import (
	"maps"
	"math"
	"slices"
	"testing"

	"wainscot/api"
	"wainscot/tree"
)

// checks asks that a tree is told right just if the chapter's words say so.
func checks(t *testing.T, b tree.Blocks, root int, what string) bool {
	t.Helper()
	right, want := isRight(b, root), api.OK
	if !right {
		want = api.ECorrupt
	}
	if e := tree.Check(b, root); e != want {
		t.Fatalf("%s: Check %v; want %v", what, e, want)
	}
	return right
}

// twist is something that is done to a node, which may make the tree wrong.
type twist struct {
	what string
	do   func(x *api.Node)
}

// pairAt is a twist of one pair, kidAt of one kid, if there is one at this place (of the last ones, from -1 on down).
func pairAt(at int, what string, do func(p *api.Pair)) twist {
	return twist{what, func(x *api.Node) {
		if i := place(at, len(x.Pairs)); i >= 0 {
			do(&x.Pairs[i])
		}
	}}
}

func kidAt(at int, what string, do func(k *api.Kid)) twist {
	return twist{what, func(x *api.Node) {
		if i := place(at, len(x.Kids)); i >= 0 {
			do(&x.Kids[i])
		}
	}}
}

func place(at, n int) int {
	if at < 0 {
		at += n
	}
	if at >= n {
		return -1
	}
	return at
}

// twists are many of them.
func twists() []twist {
	l := []twist{
		{"no twist", func(x *api.Node) {}},
		{"a level more", func(x *api.Node) { x.Level++ }},
		{"a level less", func(x *api.Node) { x.Level-- }},
		{"level 11", func(x *api.Node) { x.Level = 11 }},
		{"level 12", func(x *api.Node) { x.Level = 12 }},
		{"nothing in it", func(x *api.Node) { x.Pairs, x.Kids = nil, nil }},
		{"a leaf", func(x *api.Node) { *x = leaf("a", "b", "c") }},
		{"all the other way round", func(x *api.Node) { slices.Reverse(x.Pairs); slices.Reverse(x.Kids) }},
		{"the last pair at the end of all", func(x *api.Node) {
			if len(x.Pairs) > 0 {
				x.Pairs[len(x.Pairs)-1].Key = highest()
			}
		}},
	}
	for n := range 19 {
		l = append(l,
			twist{"only the first", func(x *api.Node) { x.Pairs, x.Kids = x.Pairs[:min(n, len(x.Pairs))], x.Kids[:min(n, len(x.Kids))] }},
			twist{"only the last", func(x *api.Node) {
				x.Pairs, x.Kids = x.Pairs[max(0, len(x.Pairs)-n):], x.Kids[max(0, len(x.Kids)-n):]
			}},
			twist{"more behind it", func(x *api.Node) {
				for range n {
					if last := len(x.Pairs) - 1; last >= 0 {
						x.Pairs = append(x.Pairs, api.Pair{Key: after(x.Pairs[last].Key)})
					}
				}
			}})
	}
	for _, at := range []int{0, 1, -2, -1} {
		l = append(l,
			pairAt(at, "a long value", func(p *api.Pair) { p.Value = fortyOne }),
			pairAt(at, "another value", func(p *api.Pair) { p.Value = forty }),
			kidAt(at, "no block", func(k *api.Kid) { k.Block = 7 }),
			kidAt(at, "a number too great", func(k *api.Kid) { k.Block = 1 << 32 }),
			kidAt(at, "a superblock", func(k *api.Kid) { k.Block = 1 }),
			kidAt(at, "another node's block", func(k *api.Kid) { k.Block -= 3 }),
			kidAt(at, "another node's block", func(k *api.Kid) { k.Block += 30 }))
		for n := 1; n < 12; n++ {
			up := func(k api.Key) api.Key {
				for range n {
					k = after(k)
				}
				return k
			}
			down := func(k api.Key) api.Key {
				for range n {
					k = before(k)
				}
				return k
			}
			l = append(l,
				pairAt(at, "a greater key", func(p *api.Pair) { p.Key = up(p.Key) }),
				pairAt(at, "a lesser key", func(p *api.Pair) { p.Key = down(p.Key) }),
				kidAt(at, "a greater First", func(k *api.Kid) { k.First = up(k.First) }),
				kidAt(at, "a lesser First", func(k *api.Kid) { k.First = down(k.First) }))
		}
	}
	return l
}

// TestCheckTwisted (G4): each node of a tree of several levels, with each twist.
func TestCheckTwisted(t *testing.T) {
	t.Parallel()
	for _, x := range []struct {
		pairs int
		into  func(int, int, int) int
	}{{2, thin}, {7, fat}, {9, thin}, {30, fat}, {72, thin}, {190, fat}} {
		s := newShelf()
		root := grow(t, s, pairs(late, x.pairs), x.into)
		wrong := 0
		for _, n := range slices.Sorted(maps.Keys(s.nodes)) {
			was := s.nodes[n]
			for _, w := range twists() {
				now := api.Node{Level: was.Level, Pairs: slices.Clone(was.Pairs), Kids: slices.Clone(was.Kids)}
				w.do(&now)
				s.nodes[n] = now
				if !checks(t, s, root, w.what) {
					wrong++
				}
			}
			s.nodes[n] = was
		}
		if wrong == 0 || !checks(t, s, root, "behind it all") {
			t.Errorf("%d wrong", wrong)
		}
	}
}

// TestCheckFew (G4): a root may have one pair, or two kids; another node may not have less than 3, or 9.
func TestCheckFew(t *testing.T) {
	for root := 1; root <= 8; root++ {
		s := newShelf()
		checks(t, s, must(t, s, leaf(make([]string, root)...)), "a leaf")
	}
	for a := 1; a <= 8; a++ {
		for b := 1; b <= 8; b++ {
			s := newShelf()
			l := pairs(late, a+b)
			n := must(t, s, api.Node{Level: 1, Kids: []api.Kid{
				{First: l[0].Key, Block: must(t, s, api.Node{Pairs: l[:a]})},
				{First: l[a].Key, Block: must(t, s, api.Node{Pairs: l[a:]})},
			}})
			if right := checks(t, s, n, "two leaves"); right != (3 <= a && a <= 7 && 3 <= b && b <= 7) {
				t.Errorf("leaves of %d and %d: %v", a, b, right)
			}
		}
	}
	for a := 1; a <= 19; a++ {
		for b := 1; b <= 19; b++ {
			s := newShelf()
			l := pairs(late, 3*(a+b))
			var row []api.Kid
			for _, p := range cut(l, a+b) {
				row = append(row, api.Kid{First: p[0].Key, Block: must(t, s, api.Node{Pairs: p})})
			}
			n := must(t, s, api.Node{Level: 2, Kids: []api.Kid{
				{First: l[0].Key, Block: must(t, s, api.Node{Level: 1, Kids: row[:a]})},
				{First: row[a].First, Block: must(t, s, api.Node{Level: 1, Kids: row[a:]})},
			}})
			if right := checks(t, s, n, "two nodes"); right != (9 <= a && a <= 18 && 9 <= b && b <= 18) {
				t.Errorf("nodes of %d and %d: %v", a, b, right)
			}
		}
	}
}

// TestCheckBounds (G4): the last key below the last kid is held against the next kid of each node above.
func TestCheckBounds(t *testing.T) {
	s := newShelf()
	l := pairs(late, 3*9*9*2)
	for i := range l {
		l[i].Key = late(10 * i)
	}
	root := grow(t, s, l, thin)
	at, next := root, late(0)
	for s.nodes[at].Level > 0 {
		kids := s.nodes[at].Kids
		if at == root {
			at, next = kids[0].Block, kids[1].First
		} else {
			at = kids[len(kids)-1].Block
		}
	}
	was := s.nodes[at].Pairs
	for _, x := range []struct {
		key   api.Key
		right bool
	}{{before(next), true}, {next, false}, {after(next), false}, {highest(), false}} {
		now := slices.Clone(was)
		now[len(now)-1].Key = x.key
		s.nodes[at] = api.Node{Pairs: now}
		if right := checks(t, s, root, "the last key"); right != x.right {
			t.Errorf("%x ahead of %x: %v", x.key, next, right)
		}
	}
}

// TestCheckLevels (G4): kids of each other level than one less.
func TestCheckLevels(t *testing.T) {
	for level := 1; level < 13; level++ {
		s := newShelf()
		root := grow(t, s, pairs(late, 60), thin)
		x := s.nodes[root]
		x.Level = level
		s.nodes[root] = x
		if right := checks(t, s, root, "another level"); right != (level == 2) {
			t.Errorf("level %d: %v", level, right)
		}
	}
}

// TestCheckErrors (G4): an error of b is told, wherever it comes, but ECorrupt for EArg.
func TestCheckErrors(t *testing.T) {
	s := newShelf()
	root := grow(t, s, pairs(late, 200), thin)
	for _, err := range append(errnos(), -1, 99, math.MaxInt) {
		want := err
		if err == api.EArg {
			want = api.ECorrupt
		}
		for at := range len(s.nodes) {
			if e := tree.Check(&faulty{Blocks: s, at: at, err: err, once: true}, root); e != want {
				t.Errorf("call %d fails with %v: %v", at, err, e)
			}
		}
		if e := tree.Check(&faulty{Blocks: s, at: len(s.nodes), err: err}, root); e != api.OK {
			t.Errorf("no call fails: %v", e)
		}
	}
}

// TestCheckChangesNothing (G4): Check asks for nodes alone.
func TestCheckChangesNothing(t *testing.T) {
	s := newShelf()
	root := grow(t, s, pairs(late, 200), thin)
	if e := tree.Check(onlyGet{s, t}, root); e != api.OK {
		t.Errorf("%v", e)
	}
}

// TestCheckMissing (G4): each block below the root is asked for.
func TestCheckMissing(t *testing.T) {
	s := newShelf()
	root := grow(t, s, pairs(late, 200), thin)
	for _, n := range slices.Sorted(maps.Keys(s.nodes)) {
		was := s.nodes[n]
		delete(s.nodes, n)
		if e := tree.Check(s, root); e != api.ECorrupt {
			t.Errorf("without %d: %v", n, e)
		}
		s.nodes[n] = was
	}
}
