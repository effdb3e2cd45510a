package tree_test

import (
	"maps"
	"slices"
	"testing"

	"wainscot/api"
	"wainscot/tree"
)

// TestApplyExamples (G3): those of the chapter, and a few more.
func TestApplyExamples(t *testing.T) {
	m := tree.NewMemory(9)
	a := apply(t, m, 9, 0, []api.Change{put(late(1), "1")})
	has(t, m, a, leaf("1"), 1)
	if n := apply(t, m, 9, a, []api.Change{gone(late(1))}, a); n != 0 {
		t.Errorf("%d; want the empty tree", n)
	}
	if n := apply(t, m, 9, 0, nil, a); n != 0 {
		t.Errorf("%d; want the empty tree", n)
	}
	if n := apply(t, m, 9, 0, []api.Change{gone(late(1)), gone(late(2))}, a); n != 0 {
		t.Errorf("%d; want the empty tree", n)
	}
	if n := apply(t, m, 9, 0, []api.Change{put(late(1), "1"), gone(late(1))}, a); n != 0 {
		t.Errorf("%d; want the empty tree", n)
	}
	release(t, m, a)
	audit(t, m, 9)
}

// TestApplyInOrder (G3): changes count one behind the other; of like keys the last one does.
func TestApplyInOrder(t *testing.T) {
	t.Parallel()
	for _, n := range []int{0, 1, 3, 7, 20, 60, 300} {
		l := pairs(early, n)
		for at := range min(2*n+3, 50) {
			k, o := early(at), early(at+1)
			for _, c := range [][]api.Change{
				{put(k, "a"), put(k, "b")},
				{put(k, "b"), put(k, "a")},
				{put(k, "a"), gone(k)},
				{gone(k), put(k, "a")},
				{put(k, "a"), put(o, "b"), gone(k), put(k, "c"), gone(o)},
				{gone(k), gone(k)},
				{put(o, "b"), put(k, "a"), put(o, "c"), gone(k)},
				{put(k, ""), gone(o), put(o, ""), put(k, forty)},
				{{Key: k, Value: "not asked for", Gone: true}},
				{{Key: k, Value: forty, Gone: true}, put(o, forty)},
			} {
				m := tree.NewMemory(200)
				root := grow(t, m, l, thin)
				apply(t, m, 200, root, c, root)
			}
		}
	}
}

// TestApplyManyAlike (G3): of many changes of few keys, in any order, the last of each key counts.
func TestApplyManyAlike(t *testing.T) {
	next := numbers(3)
	for range 200 {
		m := tree.NewMemory(200)
		root := grow(t, m, pairs(late, next(30)), fat)
		var l []api.Change
		for i := range 60 {
			k := late(next(12))
			l = append(l, api.Change{Key: k, Value: word(i), Gone: next(3) == 0})
		}
		apply(t, m, 200, root, l, root)
	}
}

// TestApplyNothing (G3): without changes, or with such as take away what is not there, the tree means the same, and is held once more.
func TestApplyNothing(t *testing.T) {
	for _, n := range []int{0, 1, 7, 8, 60, 500} {
		m := tree.NewMemory(600)
		l := pairs(middle, n)
		root := grow(t, m, l, thin)
		held := []int{root}
		for _, c := range [][]api.Change{
			nil, {}, {gone(middle(0))}, {gone(middle(n))}, {gone(middle(2 * n)), gone(middle(2 * n)), gone(highest())},
			{put(middle(0), "a"), gone(middle(0))},
		} {
			if n%2 == 1 && len(c) == 1 {
				c = []api.Change{gone(middle(n + 1))}
			}
			got := apply(t, m, 600, root, c, held...)
			if len(c) == 0 && got != root {
				t.Errorf("%d; want %d, once more", got, root)
			}
			held = append(held, got)
		}
		for _, root := range held {
			release(t, m, root)
		}
		audit(t, m, 600)
	}
}

// TestApplyLong (G3): a value of 40 bytes may be, a longer one may not, wherever it stands; nothing is asked of b then.
func TestApplyLong(t *testing.T) {
	m := tree.NewMemory(90)
	root := grow(t, m, pairs(late, 30), thin)
	long := api.Change{Key: late(5), Value: fortyOne}
	longer := api.Change{Key: late(5), Value: string(make([]byte, 300))}
	away := api.Change{Key: late(99), Value: fortyOne, Gone: true}
	was := counts(m, 90)
	for _, l := range [][]api.Change{
		{long}, {longer}, {away}, {long, put(late(5), "a")}, {long, gone(late(5))}, {put(late(6), "a"), longer},
		{put(late(1), forty), put(late(2), forty), long}, {gone(late(5)), away},
	} {
		for _, r := range []int{root, 0, 99, -1} {
			f := &faulty{Blocks: m, err: api.EIO}
			if n, e := tree.Apply(f, r, l); n != 0 || e != api.EArg || f.calls != 0 {
				t.Errorf("Apply %v: %d %v, %d calls", l, n, e, f.calls)
			}
			if n, e := tree.Apply(m, r, l); n != 0 || e != api.EArg || !maps.Equal(was, counts(m, 90)) {
				t.Errorf("Apply %v: %d %v", l, n, e)
			}
		}
	}
	apply(t, m, 90, root, []api.Change{put(late(5), forty), put(late(6), ""), put(late(0), forty[:39])}, root)
}

// TestApplyKeepsList (R1): the changes stay as they were, and are not kept.
func TestApplyKeepsList(t *testing.T) {
	m := tree.NewMemory(90)
	l := []api.Change{put(late(9), "i"), put(late(3), "c"), gone(late(9)), put(late(3), "d"), put(late(1), "a"), put(late(5), "e")}
	was := slices.Clone(l)
	root := apply(t, m, 90, 0, l)
	if !slices.Equal(l, was) {
		t.Errorf("%v; was %v", l, was)
	}
	clear(l)
	is(t, m, root, applied(nil, was))
}

// TestApplyKeepsBlocks (G3): no node of a block is ever changed.
func TestApplyKeepsBlocks(t *testing.T) {
	s := newShelf()
	root := grow(t, s, pairs(late, 300), thin)
	next := numbers(4)
	was := map[int]api.Node{}
	for range 60 {
		for n, x := range s.nodes {
			if _, ok := was[n]; !ok {
				was[n] = api.Node{Level: x.Level, Pairs: slices.Clone(x.Pairs), Kids: slices.Clone(x.Kids)}
			}
		}
		var l []api.Change
		for range 1 + next(40) {
			l = append(l, api.Change{Key: late(next(700)), Value: "w", Gone: next(2) == 0})
		}
		var e api.Errno
		if root, e = tree.Apply(s, root, l); e != api.OK {
			t.Fatal(e)
		}
		for n, x := range was {
			y := s.nodes[n]
			if x.Level != y.Level || !slices.Equal(x.Pairs, y.Pairs) || !slices.Equal(x.Kids, y.Kids) {
				t.Fatalf("block %d: %v; was %v", n, y, x)
			}
		}
	}
}

// TestApplyOne (G3): each single change of trees of all shapes takes no more than two blocks for each level, and one.
func TestApplyOne(t *testing.T) {
	t.Parallel()
	for _, into := range []func(int, int, int) int{thin, fat} {
		for _, n := range []int{0, 1, 2, 3, 5, 6, 7, 8, 12, 14, 15, 27, 54, 126, 127, 162, 486, 2268} {
			m := tree.NewMemory(1200)
			l := pairs(late, n)
			root := grow(t, m, l, into)
			levels := 0
			if n > 0 {
				x, _ := m.Get(root)
				levels = x.Level + 1
			}
			was := counts(m, 1200)
			free := m.Free()
			step := 1 + n/30
			for at := 0; at < 2*n+2; at += step {
				for _, c := range []api.Change{put(late(at), "new"), gone(late(at))} {
					got := apply(t, m, 1200, root, []api.Change{c}, root)
					if used := free - m.Free(); used > 2*levels+1 {
						t.Fatalf("%v in a tree of %d levels: %d blocks", c, levels, used)
					}
					release(t, m, got)
					if !maps.Equal(was, counts(m, 1200)) {
						t.Fatalf("%v: %v; was %v", c, counts(m, 1200), was)
					}
				}
			}
		}
	}
}

// TestApplyRuns (G3): each run of keys is taken away, or put, at once.
func TestApplyRuns(t *testing.T) {
	t.Parallel()
	for _, into := range []func(int, int, int) int{thin, fat} {
		for _, n := range []int{1, 7, 8, 27, 54} {
			m := tree.NewMemory(200)
			l := pairs(early, n)
			root := grow(t, m, l, into)
			for from := range n {
				for to := from + 1; to <= n; to++ {
					release(t, m, apply(t, m, 200, root, gones(l[from:to]), root))
					var between []api.Change
					for i := from; i < to; i++ {
						between = append(between, put(early(2*i), "new"))
					}
					release(t, m, apply(t, m, 200, root, between, root))
				}
			}
		}
	}
}

// TestApplyWideRuns (G3): runs of keys of trees of more levels, taken away at once: whole nodes go, and of others little is left.
func TestApplyWideRuns(t *testing.T) {
	t.Parallel()
	for _, into := range []func(int, int, int) int{thin, fat} {
		m := tree.NewMemory(1500)
		l := pairs(late, 1458)
		root := grow(t, m, l, into)
		next := numbers(11)
		for i := range 250 {
			from, to := next(1459), next(1459)
			if from > to {
				from, to = to, from
			}
			c := gones(l[from:to])
			if i%2 == 1 {
				c = append(gones(l[:from]), gones(l[to:])...)
			}
			if i%5 < 2 && len(c) > 0 {
				at := next(len(c))
				c = slices.Delete(slices.Clone(c), at, at+1)
			}
			release(t, m, apply(t, m, 1500, root, c, root))
		}
		if n := apply(t, m, 1500, root, gones(l), root); n != 0 {
			t.Errorf("%d; want the empty tree", n)
		}
	}
}

// TestApplySparse (G3): all keys are taken away but a few, here and there: at each level few are left, or one alone.
func TestApplySparse(t *testing.T) {
	t.Parallel()
	for _, into := range []func(int, int, int) int{thin, fat} {
		m := tree.NewMemory(1500)
		l := pairs(late, 1500)
		root := grow(t, m, l, into)
		for _, every := range []int{2, 3, 5, 13, 27, 81, 100, 243, 244, 500, 729, 1500} {
			for at := 0; at < every && at < 1500; at += 1 + every/9 {
				var c []api.Change
				for i, p := range l {
					if i%every != at {
						c = append(c, gone(p.Key))
					}
				}
				release(t, m, apply(t, m, 1500, root, c, root))
			}
		}
	}
}

// TestApplyAlone (G3): of a node's kids one alone is left, with too little, or none, while its neighbours stay; so at each level.
func TestApplyAlone(t *testing.T) {
	t.Parallel()
	for _, into := range []func(int, int, int) int{thin, fat} {
		m := tree.NewMemory(800)
		l := pairs(late, 729)
		root := grow(t, m, l, into)
		for _, size := range []int{3, 7, 9, 27, 81, 126, 243} {
			for from := 0; from+size <= len(l); from += max(size, 81) {
				for keep := range 4 {
					for _, at := range []int{0, size / 2, size - keep} {
						if at < 0 || keep+at > size {
							continue
						}
						run := l[from : from+size]
						c := append(gones(run[:at]), gones(run[at+keep:])...)
						release(t, m, apply(t, m, 800, root, c, root))
					}
				}
			}
		}
	}
}

// TestApplyGrows (G3): from nothing up to several levels, one by one and many at once, and down again.
func TestApplyGrows(t *testing.T) {
	t.Parallel()
	const most = 600
	for _, by := range []int{1, 2, 7, 130, 600} {
		for _, up := range []func(i int) int{
			func(i int) int { return i },
			func(i int) int { return 599 - i },
			func(i int) int { return i * 7 % 600 },
		} {
			m := tree.NewMemory(most)
			var l []api.Change
			for i := range 600 {
				l = append(l, put(middle(up(i)), word(i)))
			}
			root := 0
			for len(l) > 0 {
				n := min(by, len(l))
				next := grown(t, m, root, l[:n], by)
				l = l[n:]
				release(t, m, root)
				root = next
			}
			for i := 0; i < 600; i += by {
				var c []api.Change
				for j := i; j < min(i+by, 600); j++ {
					c = append(c, gone(middle(up(600-1-j))))
				}
				next := grown(t, m, root, c, by)
				release(t, m, root)
				root = next
			}
			if root != 0 || m.Free() != most {
				t.Errorf("%d, %d free", root, m.Free())
			}
		}
	}
}

// grown is as apply, but looks at all of it only now and then, if the changes are few.
func grown(t *testing.T, m *tree.Memory, root int, l []api.Change, by int) int {
	t.Helper()
	if by > 3 || compare(l[0].Key, middle(40)) < 0 {
		return apply(t, m, 600, root, l, root)
	}
	n, e := tree.Apply(m, root, l)
	if e != api.OK || tree.Check(m, n) != api.OK {
		t.Fatalf("Apply %v: %v, Check %v", l, e, tree.Check(m, n))
	}
	return n
}

// TestApplyFails (G3): wherever a call of Get, Put or Inc fails, that is told, and all counts are as they were.
func TestApplyFails(t *testing.T) {
	t.Parallel()
	const most = 400
	l := pairs(late, 300)
	for _, c := range [][]api.Change{
		nil,
		{gone(late(2))},
		{put(late(2), "new")},
		{put(l[9].Key, "new")},
		{gone(l[9].Key)},
		{put(late(0), "a"), put(late(601), "z"), gone(l[200].Key)},
		gones(l[30:60]), gones(l[1:]), gones(l[:299]), gones(l[:150]), gones(l[150:]), gones(l[3:270]), gones(l),
		append(gones(l[40:200]), puts(pairs(middle, 90))...),
		puts(pairs(early, 200)),
	} {
		for _, into := range []func(int, int, int) int{thin, fat} {
			m := tree.NewMemory(most)
			root := grow(t, m, l, into)
			was := counts(m, most)
			for _, err := range []api.Errno{api.ESpace, api.EIO, api.EArg} {
				for _, once := range []bool{false, true} {
					at := 0
					for ; ; at++ {
						f := &faulty{Blocks: m, at: at, err: err, once: once, careful: true}
						n, e := tree.Apply(f, root, c)
						if f.calls <= at {
							is(t, m, n, applied(l, c))
							release(t, m, n)
							break
						}
						if n != 0 || e != err || !maps.Equal(was, counts(m, most)) {
							t.Fatalf("call %d of %v fails: %d %v", at, c, n, e)
						}
					}
					if at == 0 || !maps.Equal(was, counts(m, most)) {
						t.Fatalf("%v: %d calls", c, at)
					}
				}
			}
			is(t, m, root, l)
		}
	}
}

// TestApplyFailsBare (G3): the same of the first blocks that there are.
func TestApplyFailsBare(t *testing.T) {
	for _, n := range []int{1, 7, 8, 30, 127, 300} {
		m := tree.NewMemory(200)
		l := pairs(late, n)
		for at := 0; ; at++ {
			f := &faulty{Blocks: m, at: at, err: api.ESpace, careful: true}
			root, e := tree.Apply(f, 0, puts(l))
			if f.calls <= at {
				is(t, m, root, l)
				audit(t, m, 200, root)
				break
			}
			if root != 0 || e != api.ESpace || m.Free() != 200 {
				t.Fatalf("call %d fails: %d %v, %d free", at, root, e, m.Free())
			}
		}
	}
}

// TestApplyNone (G3): a tree whose root there is not: the error of Get.
func TestApplyNone(t *testing.T) {
	m := tree.NewMemory(9)
	must(t, m, leaf("a"))
	for _, root := range nowhere() {
		if root == 0 || root == 2 {
			continue
		}
		if n, e := tree.Apply(m, root, []api.Change{put(late(1), "b")}); n != 0 || e != api.ECorrupt {
			t.Errorf("Apply to %d: %d %v", root, n, e)
		}
		if n, e := tree.Apply(m, root, nil); n != 0 || e == api.OK {
			t.Errorf("Apply of nothing to %d: %d %v", root, n, e)
		}
		audit(t, m, 9, 2)
	}
}

// TestApplyRows (G3, What follows): long rows of changes, with many trees held at a time; they are released in any order.
func TestApplyRows(t *testing.T) {
	t.Parallel()
	const most = 4000
	for seed, key := range []func(int) api.Key{late, middle, early} {
		m, next := tree.NewMemory(most), numbers(uint32(seed))
		held := []int{0}
		means := [][]api.Pair{nil}
		for i := range 400 {
			at := next(len(held))
			l := row(next, key, i)
			n, e := tree.Apply(m, held[at], l)
			if e != api.OK {
				t.Fatalf("Apply: %v", e)
			}
			held, means = append(held, n), append(means, applied(means[at], l))
			is(t, m, n, means[len(means)-1])
			if len(held) > 8 {
				at := next(len(held))
				release(t, m, held[at])
				held, means = slices.Delete(held, at, at+1), slices.Delete(means, at, at+1)
			}
			if i%8 == 0 {
				for j, n := range held {
					is(t, m, n, means[j])
				}
				audit(t, m, most, held...)
			}
		}
		for _, n := range held {
			release(t, m, n)
		}
		audit(t, m, most)
	}
}

// row is some changes: by turns more is put, and more taken away; of keys anywhere, or near to each other.
func row(next func(int) int, key func(int) api.Key, i int) []api.Change {
	var l []api.Change
	from, wide := 0, 1200
	if next(2) == 0 {
		from, wide = next(1100), 100
	}
	odds := 1 + 7*(i/50%2)
	for range next(120) {
		l = append(l, api.Change{Key: key(from + next(wide)), Value: word(next(1000)), Gone: next(10) < odds})
	}
	return l
}
