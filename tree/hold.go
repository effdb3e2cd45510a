package tree

import (
	"wainscot/api"
	"wainscot/node"
)

// Clone holds a tree once more (G4).
func Clone(b Blocks, root int) api.Errno {
	if root == 0 {
		return api.OK
	}
	return given(b).Inc(root)
}

// Release holds it once less (G4).
func Release(b Blocks, root int) api.Errno {
	if root == 0 {
		return api.OK
	}
	return release(given(b), root, api.MaxDepth)
}

// release ends at the first error. Levels are how many there may still be: without that bound, blocks that are kids of their own kids, and always tell that they are free, would never let it end.
func release(b Blocks, n, levels int) api.Errno {
	if levels == 0 {
		return api.ECorrupt
	}
	x, err := b.Get(n) // ahead of Dec: a block that is free has no node any more
	if err != api.OK {
		return err
	}
	free, err := b.Dec(n)
	if err != api.OK || !free {
		return err
	}
	for _, kid := range x.Kids {
		if err := release(b, kid.Block, levels-1); err != api.OK {
			return err
		}
	}
	return api.OK
}

// Check tells whether a tree is right (G4).
func Check(b Blocks, root int) api.Errno {
	if root == 0 {
		return api.OK
	}
	b = given(b)
	x, err := read(b, root, anyLevel)
	if err == api.OK {
		err = checkKids(b, x, api.Span{From: node.First(x), End: true})
	}
	if err == api.EArg {
		return api.ECorrupt
	}
	return err
}

// checkKids tells whether all is right below a node whose keys may be in this span.
func checkKids(b Blocks, x api.Node, s api.Span) api.Errno {
	for i, kid := range x.Kids {
		y, err := read(b, kid.Block, x.Level-1)
		if err != api.OK {
			return err
		}
		part := narrow(s, x.Kids, i)
		if isShort(len(y.Pairs), len(y.Kids)) || node.First(y) != kid.First || !within(part, lastKey(y)) {
			return api.ECorrupt
		}
		if err := checkKids(b, y, part); err != api.OK {
			return err
		}
	}
	return api.OK
}

// isShort tells whether a node with so many has too few to be no root.
func isShort(pairs, kids int) bool { return pairs < Least && kids < Fewest }

// lastKey is the greatest key of a right node.
func lastKey(x api.Node) api.Key {
	if x.Level == 0 {
		return x.Pairs[len(x.Pairs)-1].Key
	}
	return x.Kids[len(x.Kids)-1].First
}
