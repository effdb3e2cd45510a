package tree

import (
	"bytes"
	"slices"

	"wainscot/api"
	"wainscot/node"
)

// Apply is a tree with changes (G3). All of it is planned ahead of the first Put: so no block is taken but those that the new tree has, and what can't be is known while nothing is done.
func Apply(b Blocks, root int, l []api.Change) (int, api.Errno) {
	if slices.ContainsFunc(l, func(c api.Change) bool { return len(c.Value) > api.MaxValue }) {
		return 0, api.EArg
	}
	b = given(b)
	row, level, err := plan(b, root, settle(l))
	if err != api.OK {
		return 0, err
	}
	if len(row) > 1 {
		return 0, api.ETooBig
	}
	if len(row) == 0 {
		return 0, api.OK
	}
	w := writer{b: b}
	n, err := w.lay(row[0], level)
	if err != api.OK {
		w.undo()
		return 0, err
	}
	return n, api.OK
}

// settle is the last change of each key, by keys.
func settle(l []api.Change) []api.Change {
	sorted := slices.Clone(l)
	slices.SortStableFunc(sorted, func(x, y api.Change) int { return bytes.Compare(x.Key[:], y.Key[:]) })
	var last []api.Change
	for i, c := range sorted {
		if i+1 == len(sorted) || sorted[i+1].Key != c.Key {
			last = append(last, c)
		}
	}
	return last
}

// piece is a part of a tree that is planned: a block that stays as it is, or else (block 0) a node that is still to be laid.
type piece struct {
	first api.Key
	block int
	pairs []api.Pair
	kids  []piece
}

// lacks tells whether a piece has too little to be no root. A block that stays was no root, or is alone.
func (p piece) lacks() bool { return p.block == 0 && isShort(len(p.pairs), len(p.kids)) }

// plan is the new tree's root and its level: none, if the tree is empty; several, if there can be none above them.
func plan(b Blocks, root int, l []api.Change) ([]piece, int, api.Errno) {
	if root == 0 {
		pairs, _ := merge(nil, l)
		row, level := crown(leaves(pairs), 0)
		return row, level, api.OK
	}
	x, err := read(b, root, anyLevel)
	if err != api.OK {
		return nil, 0, err
	}
	row, err := change(b, root, x, l)
	if err != api.OK {
		return nil, 0, err
	}
	row, level := crown(row, x.Level)
	return row, level, api.OK
}

// crown lays nodes above a row until one alone is left, or takes those away that have but one kid.
func crown(row []piece, level int) ([]piece, int) {
	for len(row) > 1 && level+1 < api.MaxDepth {
		row = inners(row)
		level++
	}
	for len(row) == 1 && len(row[0].kids) == 1 {
		row = row[0].kids
		level--
	}
	return row, level
}

// change is the pieces that a block and its node become: the block itself, if nothing is changed in it. One of them lacks something only if it is alone.
func change(b Blocks, n int, x api.Node, l []api.Change) ([]piece, api.Errno) {
	same := []piece{{first: node.First(x), block: n}}
	if x.Level == 0 {
		pairs, changed := merge(x.Pairs, l)
		if !changed {
			return same, api.OK
		}
		return leaves(pairs), api.OK
	}
	row, changed, err := changeKids(b, x, l)
	if err != api.OK {
		return nil, err
	}
	if !changed {
		return same, api.OK
	}
	row, err = mend(b, row, x.Level-1)
	return inners(row), err
}

// changeKids is the row of pieces that a node's kids become, and whether one of them is changed.
func changeKids(b Blocks, x api.Node, l []api.Change) ([]piece, bool, api.Errno) {
	var row []piece
	changed := false
	for i, kid := range x.Kids {
		n := len(l)
		if i+1 < len(x.Kids) {
			n = ahead(l, x.Kids[i+1].First)
		}
		if n == 0 {
			row = append(row, staying(kid))
			continue
		}
		y, err := read(b, kid.Block, x.Level-1)
		if err != api.OK {
			return nil, false, err
		}
		more, err := change(b, kid.Block, y, l[:n])
		if err != api.OK {
			return nil, false, err
		}
		changed = changed || len(more) != 1 || more[0].block == 0
		row = append(row, more...)
		l = l[n:]
	}
	return row, changed, api.OK
}

// ahead is how many changes there are of keys below this one.
func ahead(l []api.Change, k api.Key) int {
	n := 0
	for n < len(l) && less(l[n].Key, k) {
		n++
	}
	return n
}

func staying(kid api.Kid) piece { return piece{first: kid.First, block: kid.Block} }

// merge is the pairs with the changes, both by keys, and whether one of them took a pair away or laid one down.
func merge(pairs []api.Pair, l []api.Change) ([]api.Pair, bool) {
	var all []api.Pair
	changed := false
	for _, c := range l {
		n := 0
		for n < len(pairs) && less(pairs[n].Key, c.Key) {
			n++
		}
		all = append(all, pairs[:n]...)
		pairs = pairs[n:]
		if len(pairs) > 0 && pairs[0].Key == c.Key {
			pairs = pairs[1:]
			changed = true
		}
		if !c.Gone {
			all = append(all, api.Pair{Key: c.Key, Value: c.Value})
			changed = true
		}
	}
	return append(all, pairs...), changed
}

// mend joins each piece of this level that lacks something to a neighbour. One may be left that does, if it has none.
func mend(b Blocks, row []piece, level int) ([]piece, api.Errno) {
	var done []piece
	for _, p := range row {
		last := len(done) - 1
		if last < 0 || !done[last].lacks() && !p.lacks() {
			done = append(done, p)
			continue
		}
		both, err := join(b, done[last], p, level)
		if err != api.OK {
			return nil, err
		}
		done = append(done[:last], both...)
	}
	return done, api.OK
}

// join shares what two neighbours of this level have out anew. A kid that lacked something because it was alone has neighbours now.
func join(b Blocks, p, q piece, level int) ([]piece, api.Errno) {
	p, err := open(b, p, level)
	if err != api.OK {
		return nil, err
	}
	q, err = open(b, q, level)
	if err != api.OK {
		return nil, err
	}
	if level == 0 {
		return leaves(slices.Concat(p.pairs, q.pairs)), api.OK
	}
	kids, err := mend(b, slices.Concat(p.kids, q.kids), level-1)
	return inners(kids), err
}

// open is a piece that is still to be laid, with what this one has.
func open(b Blocks, p piece, level int) (piece, api.Errno) {
	if p.block == 0 {
		return p, api.OK
	}
	x, err := read(b, p.block, level)
	if err != api.OK {
		return piece{}, err
	}
	opened := piece{first: p.first, pairs: x.Pairs}
	for _, kid := range x.Kids {
		opened.kids = append(opened.kids, staying(kid))
	}
	return opened, api.OK
}

// leaves is pairs as leaves.
func leaves(pairs []api.Pair) []piece {
	var row []piece
	for _, l := range share(pairs, node.Leaves) {
		row = append(row, piece{first: l[0].Key, pairs: l})
	}
	return row
}

// inners is kids as nodes above them.
func inners(kids []piece) []piece {
	var row []piece
	for _, l := range share(kids, node.Inners) {
		row = append(row, piece{first: l[0].first, kids: l})
	}
	return row
}

// share shares items out evenly to as few lists as have room for them. So, of several, each is at least half full.
func share[T any](l []T, most int) [][]T {
	var lists [][]T
	n := (len(l) + most - 1) / most
	for i := range n {
		from, to := len(l)*i/n, len(l)*(i+1)/n
		lists = append(lists, l[from:to:to])
	}
	return lists
}

// writer lays a plan down, and knows which blocks it counted up.
type writer struct {
	b       Blocks
	counted []int
}

// lay is the block of a piece of this level, which one more needs then.
func (w *writer) lay(p piece, level int) (int, api.Errno) {
	n, err := p.block, api.OK
	if n != 0 {
		err = w.b.Inc(n)
	} else {
		n, err = w.put(p, level)
	}
	if err != api.OK {
		return 0, err
	}
	w.counted = append(w.counted, n)
	return n, api.OK
}

// put is the new block of a piece, behind those of its kids.
func (w *writer) put(p piece, level int) (int, api.Errno) {
	x := api.Node{Level: level, Pairs: p.pairs}
	for _, kid := range p.kids {
		n, err := w.lay(kid, level-1)
		if err != api.OK {
			return 0, err
		}
		x.Kids = append(x.Kids, api.Kid{First: kid.first, Block: n})
	}
	return w.b.Put(x)
}

// undo counts all down again.
func (w *writer) undo() {
	for _, n := range w.counted {
		w.b.Dec(n) // the error that led here is the one to tell
	}
}
