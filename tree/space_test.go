package tree_test

import (
	"maps"
	"slices"
	"testing"

	"wainscot/api"
	"wainscot/node"
	"wainscot/tree"
)

// TestApplyRoom (G3): with as many free blocks as the chapter says there is always room; with fewer, there may be none, and nothing is changed then.
func TestApplyRoom(t *testing.T) {
	t.Parallel()
	next := numbers(21)
	refused := 0
	for i := range 400 {
		into := []func(int, int, int) int{thin, fat}[i%2]
		l := pairs(late, next([]int{4, 9, 40, 300}[i%4]))
		var c []api.Change
		for range 1 + next([]int{2, 4, 30, 300, 1}[i%5]) {
			c = append(c, api.Change{Key: late(next(2*len(l) + 3)), Value: "new", Gone: next(4) < i%5})
		}
		shelf := newShelf()
		root := grow(t, shelf, l, into)
		used, levels := len(shelf.nodes), shelf.nodes[root].Level+1
		if root == 0 {
			levels = 0
		}
		want := applied(l, c)
		enough := min(len(want), 25*len(c))
		if len(c) == 1 {
			enough = min(enough, 2*levels+1)
		}
		for _, free := range []int{enough, enough + 1, enough - 1, enough / 2, enough / 4, enough / 8, 2, 1, 0} {
			if free < 0 {
				continue
			}
			most := used + free
			m := tree.NewMemory(most)
			root := grow(t, m, l, into)
			was := counts(m, most)
			n, e := tree.Apply(m, root, c)
			switch {
			case e == api.OK:
				is(t, m, n, want)
				audit(t, m, most, root, n)
			case e != api.ESpace || n != 0 || free >= enough:
				t.Fatalf("%d pairs, %d changes, %d free: %d %v", len(l), len(c), free, n, e)
			case !maps.Equal(was, counts(m, most)):
				t.Fatalf("%v; was %v", counts(m, most), was)
			default:
				refused++
				is(t, m, root, l)
			}
		}
	}
	if refused == 0 {
		t.Errorf("there was always room")
	}
}

// TestApplyRoomBare (G3): as many blocks as pairs are enough for a tree that is new; a tree of some pairs has no room in less than it must have.
func TestApplyRoomBare(t *testing.T) {
	for n := range 400 {
		l := pairs(late, n)
		m := tree.NewMemory(n)
		root, e := tree.Apply(m, 0, puts(l))
		if e != api.OK {
			t.Fatalf("%d pairs: %v", n, e)
		}
		is(t, m, root, l)
		least := (n + 6) / 7
		if least == 0 {
			continue
		}
		m = tree.NewMemory(least - 1)
		if root, e := tree.Apply(m, 0, puts(l)); root != 0 || e != api.ESpace || m.Free() != least-1 {
			t.Fatalf("%d pairs in %d blocks: %d %v, %d free", n, least-1, root, e, m.Free())
		}
	}
}

// TestApplyAllGone (G3): no block must be free to take all away.
func TestApplyAllGone(t *testing.T) {
	for _, n := range []int{0, 1, 7, 8, 60, 500} {
		l := pairs(late, n)
		s := newShelf()
		grow(t, s, l, fat)
		m := tree.NewMemory(len(s.nodes))
		root := grow(t, m, l, fat)
		if got, e := tree.Apply(m, root, gones(l)); got != 0 || e != api.OK || m.Free() != 0 {
			t.Errorf("%d pairs: %d %v", n, got, e)
		}
		is(t, m, root, l)
	}
}

// vast is a right tree of many levels, of which a block is made up as it is asked for, by its number; and a shelf of those that are put.
type vast struct {
	*shelf
	level, rootKids, kids, pairs int
	extra                        map[int]int // how often a block of the vast tree is counted beyond what it was
}

func newVast(level, rootKids, kids, pairs int) *vast {
	return &vast{shelf: newShelf(), level: level, rootKids: rootKids, kids: kids, pairs: pairs, extra: map[int]int{}}
}

// wide is how many nodes of a level there are, and each how many pairs below it.
func (v *vast) wide(level int) (nodes, below int) {
	nodes, below = 1, v.pairs
	for at := v.level; at > level; at-- {
		if at == v.level {
			nodes *= v.rootKids
		} else {
			nodes *= v.kids
		}
	}
	for range level {
		below *= v.kids
	}
	return nodes, below
}

// where is the level of a block, and its place there; false, if it is none of the vast tree.
func (v *vast) where(n int) (level, place int, ok bool) {
	at := n - 2
	for level := v.level; level >= 0; level-- {
		nodes, _ := v.wide(level)
		if 0 <= at && at < nodes {
			return level, at, true
		}
		at -= nodes
	}
	return 0, 0, false
}

// number is the block at a place of a level.
func (v *vast) number(level, place int) int {
	n := 2 + place
	for at := v.level; at > level; at-- {
		nodes, _ := v.wide(at)
		n += nodes
	}
	return n
}

func (v *vast) Get(n int) (api.Node, api.Errno) {
	level, place, ok := v.where(n)
	if !ok {
		return v.shelf.Get(n)
	}
	x := api.Node{Level: level}
	if level == 0 {
		for i := range v.pairs {
			p := 2*(place*v.pairs+i) + 1
			x.Pairs = append(x.Pairs, api.Pair{Key: late(p), Value: word(p)})
		}
		return x, api.OK
	}
	kids := v.kids
	if level == v.level {
		kids = v.rootKids
	}
	_, below := v.wide(level - 1)
	for i := range kids {
		at := place*kids + i
		x.Kids = append(x.Kids, api.Kid{First: late(2*at*below + 1), Block: v.number(level-1, at)})
	}
	return x, api.OK
}

func (v *vast) Inc(n int) api.Errno {
	if _, _, ok := v.where(n); !ok {
		return v.shelf.Inc(n)
	}
	v.extra[n]++
	return api.OK
}

func (v *vast) Dec(n int) (bool, api.Errno) {
	if _, _, ok := v.where(n); !ok {
		return v.shelf.Dec(n)
	}
	v.extra[n]--
	if v.extra[n] == 0 {
		delete(v.extra, n)
	}
	return false, api.OK
}

// isRight is as the other one, but takes the vast tree's own blocks for right, as they are: only their level and their keys' bounds are looked at.
func (v *vast) isRight(n, level int, first, end api.Key, root bool) bool {
	x, e := v.Get(n)
	if e != api.OK || !node.Right(x) || x.Level != level || node.First(x) != first {
		return false
	}
	if level, place, ok := v.where(n); ok {
		_, below := v.wide(level)
		return compare(late(2*(place+1)*below-1), end) < 0
	}
	if !root && len(x.Pairs) < 3 && len(x.Kids) < 9 {
		return false
	}
	for _, p := range x.Pairs {
		if compare(p.Key, end) >= 0 {
			return false
		}
	}
	for i, kid := range x.Kids {
		next := end
		if i+1 < len(x.Kids) {
			next = x.Kids[i+1].First
		}
		if !v.isRight(kid.Block, level-1, kid.First, next, false) {
			return false
		}
	}
	return true
}

// needs is how many more need a block, if this tree is held beside the vast one: of those that are put, and of the vast tree's.
func (v *vast) needs(root int) (shelf, extra map[int]int) {
	shelf, extra = map[int]int{}, map[int]int{}
	var need func(n int)
	need = func(n int) {
		if _, _, ok := v.where(n); ok {
			extra[n]++
			return
		}
		shelf[n]++
		if shelf[n] == 1 {
			for _, kid := range v.nodes[n].Kids {
				need(kid.Block)
			}
		}
	}
	need(root)
	return shelf, extra
}

// TestApplyDeep (G3): single changes, and runs of them, in trees of so many levels as can be: ten below the root of few kids, seven of many.
func TestApplyDeep(t *testing.T) {
	t.Parallel()
	for _, shape := range [][4]int{{10, 2, 9, 3}, {10, 3, 9, 3}, {9, 2, 10, 5}, {7, 18, 18, 7}, {7, 17, 18, 7}, {6, 18, 18, 6}, {8, 9, 10, 4}} {
		v := newVast(shape[0], shape[1], shape[2], shape[3])
		_, below := v.wide(v.level - 1)
		total := below * v.rootKids
		for _, at := range []int{0, 1, v.pairs, below - 1, below, total / 3, total / 2, total - v.pairs, total - 1} {
			for _, run := range []int{1, 2, v.pairs, v.pairs*v.kids - 1, v.pairs * v.kids, v.pairs*v.kids*v.kids + 5} {
				from := min(at, total-run)
				var taken, new []api.Change
				for i := from; i < from+run; i++ {
					taken, new = append(taken, gone(late(2*i+1))), append(new, put(late(2*i), "new"))
				}
				applyDeep(t, v, taken)
				applyDeep(t, v, new)
			}
		}
	}
}

// applyDeep applies changes of keys that are near to each other to the vast tree.
func applyDeep(t *testing.T, v *vast, l []api.Change) {
	t.Helper()
	n, e := tree.Apply(v, 2, l)
	if e != api.OK {
		t.Fatalf("%v of level %d: %v", l[0], v.level, e)
	}
	most := 25 * len(l)
	if len(l) == 1 {
		most = 2*(v.level+1) + 1
	}
	if len(v.nodes) > most {
		t.Fatalf("%d changes, %v first, of level %d: %d blocks", len(l), l[0], v.level, len(v.nodes))
	}
	x, _ := v.Get(n)
	if !v.isRight(n, x.Level, node.First(x), highest(), true) {
		t.Fatalf("%d changes, %v first, of level %d: the new tree is not right", len(l), l[0], v.level)
	}
	shelf, extra := v.needs(n)
	if !maps.Equal(shelf, v.counts) || !maps.Equal(extra, v.extra) {
		t.Fatalf("%v: %v %v; want %v %v", l[0], v.counts, v.extra, shelf, extra)
	}
	around := api.Span{From: l[0].Key, To: l[len(l)-1].Key}
	for range 40 {
		around.From, around.To = before(around.From), after(around.To)
	}
	was, _ := tree.Scan(v, 2, around)
	if now, e := tree.Scan(v, n, around); e != api.OK || !slices.Equal(now, applied(was, l)) {
		t.Fatalf("%v: %v %v", l[0], now, e)
	}
	release(t, v, n)
	if len(v.nodes)+len(v.counts)+len(v.extra) != 0 {
		t.Fatalf("%v: %v %v left", l[0], v.counts, v.extra)
	}
}

// before and after are the keys on both sides, but at the ends.
func before(k api.Key) api.Key {
	if k == (api.Key{}) {
		return k
	}
	for i := len(k) - 1; ; i-- {
		k[i]--
		if k[i] != 0xff {
			return k
		}
	}
}

func after(k api.Key) api.Key {
	for i := len(k) - 1; ; i-- {
		k[i]++
		if k[i] != 0 {
			return k
		}
	}
}

// chain is a tree of this root's level, with one way down to a full leaf by nodes that are full, all but the root, which has so many kids; the other kids are leaves, whatever their level should be (there are not numbers enough for a right tree so high). The way goes by each node's kid at this place.
func chain(t *testing.T, b tree.Blocks, level, rootKids, place int) int {
	t.Helper()
	low, high := 1<<30, 1<<30+14
	var x api.Node
	for i := range 7 {
		x.Pairs = append(x.Pairs, api.Pair{Key: late(low + 2*i)})
	}
	at := must(t, b, x)
	first := late(low)
	for l := 1; l <= level; l++ {
		kids := 18
		if l == level {
			kids = rootKids
		}
		x := api.Node{Level: l}
		for i := range kids {
			switch {
			case i == min(place, kids-1):
				x.Kids = append(x.Kids, api.Kid{First: first, Block: at})
			case i < place:
				x.Kids = append(x.Kids, api.Kid{First: late(low - 1000*l + i), Block: must(t, b, leaf("a", "b", "c"))})
			default:
				x.Kids = append(x.Kids, api.Kid{First: late(high + 1000*l + i), Block: must(t, b, leaf("a", "b", "c"))})
			}
		}
		at, first = must(t, b, x), node.First(x)
	}
	return at
}

// TestApplyTooBig (G3): no node has a Level above 11; where one would have, nothing is changed.
func TestApplyTooBig(t *testing.T) {
	const most = 300
	for _, place := range []int{0, 8, 17} {
		for _, x := range []struct {
			level, rootKids, want int
			err                   api.Errno
		}{{9, 18, 10, api.OK}, {10, 17, 10, api.OK}, {10, 18, 11, api.OK}, {11, 2, 11, api.OK}, {11, 17, 11, api.OK}, {11, 18, 0, api.ETooBig}} {
			m := tree.NewMemory(most)
			root := chain(t, m, x.level, x.rootKids, place)
			was := counts(m, most)
			n, e := tree.Apply(m, root, []api.Change{put(late(1<<30+5), "new")})
			if e != x.err {
				t.Fatalf("level %d, %d kids: %v; want %v", x.level, x.rootKids, e, x.err)
			}
			if e != api.OK {
				if n != 0 || !maps.Equal(was, counts(m, most)) {
					t.Errorf("%d, %v; was %v", n, counts(m, most), was)
				}
				continue
			}
			got, _ := m.Get(n)
			if got.Level != x.want {
				t.Errorf("level %d, %d kids: level %d; want %d", x.level, x.rootKids, got.Level, x.want)
			}
			gets(t, m, n, late(1<<30+5), "new", true)
			gets(t, m, root, late(1<<30+5), "", false)
			audit(t, m, most, root, n)
		}
	}
}
