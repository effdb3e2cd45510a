package node_test

import (
	"math"
	"slices"
	"strings"
	"testing"

	"wainscot/api"
	"wainscot/node"
)

// TestFirst (E2): the first key, and noughts where there is none.
func TestFirst(t *testing.T) {
	all := key(strings.Repeat("\xff", 24))
	for _, c := range []struct {
		x    api.Node
		want api.Key
	}{
		{api.Node{}, api.Key{}},
		{api.Node{Level: 3}, api.Key{}},
		{api.Node{Level: -1}, api.Key{}},
		{api.Node{Pairs: []api.Pair{}, Kids: []api.Kid{}}, api.Key{}},
		{fewPairs(), number(1)},
		{fewKids(), number(1)},
		{under(key("b"), key("c")), key("b")},
		{above(key("d"), key("e")), key("d")},
		{under(api.Key{}, key("c")), api.Key{}},
		{under(all), all},
		{above(all), all},
		{fullLeaf(), fullLeaf().Pairs[0].Key},
		{fullInner(), fullInner().Kids[0].First},
		// Those that are not right have a first key as well: it need not be the least one.
		{under(key("z"), key("a")), key("z")},
		{above(key("z"), key("a")), key("z")},
		{with(under(key("b")), func(x *api.Node) { x.Level = 5 }), key("b")},
		{with(above(key("b")), func(x *api.Node) { x.Level = 0 }), key("b")},
		{with(above(key("b")), func(x *api.Node) { x.Level = math.MinInt }), key("b")},
	} {
		if k := node.First(c.x); k != c.want {
			t.Errorf("%#v: %q; want %q", c.x, k[:], c.want[:])
		}
	}
}

// others are nodes that differ from x in one thing alone.
func others(x api.Node) []api.Node {
	var l []api.Node
	but := func(other func(y *api.Node)) { l = append(l, with(copied(x), other)) }
	but(func(y *api.Node) { y.Level++ })
	but(func(y *api.Node) { y.Level-- })
	but(func(y *api.Node) { y.Level += 256 })
	for i := range x.Pairs {
		for at := range 24 {
			but(func(y *api.Node) { y.Pairs[i].Key[at] ^= 1 })
		}
		but(func(y *api.Node) { y.Pairs[i].Value += "x" })
		but(func(y *api.Node) { y.Pairs[i].Value += "\x00" })
		but(func(y *api.Node) { y.Pairs[i].Value = "another" })
		but(func(y *api.Node) { y.Pairs = slices.Delete(y.Pairs, i, i+1) })
		but(func(y *api.Node) { y.Pairs = slices.Insert(y.Pairs, i, api.Pair{}) })
	}
	for i := range x.Kids {
		for at := range 24 {
			but(func(y *api.Node) { y.Kids[i].First[at] ^= 1 })
		}
		but(func(y *api.Node) { y.Kids[i].Block++ })
		but(func(y *api.Node) { y.Kids[i].Block += 1 << 32 })
		but(func(y *api.Node) { y.Kids[i].Block = -y.Kids[i].Block })
		but(func(y *api.Node) { y.Kids = slices.Delete(y.Kids, i, i+1) })
		but(func(y *api.Node) { y.Kids = slices.Insert(y.Kids, i, api.Kid{}) })
	}
	but(func(y *api.Node) { y.Pairs = append(y.Pairs, api.Pair{}) })
	but(func(y *api.Node) { y.Kids = append(y.Kids, api.Kid{}) })
	if len(x.Pairs) > 1 {
		but(func(y *api.Node) { slices.Reverse(y.Pairs) })
		but(func(y *api.Node) { y.Pairs = nil })
	}
	if len(x.Kids) > 1 {
		but(func(y *api.Node) { slices.Reverse(y.Kids) })
		but(func(y *api.Node) { y.Kids = nil })
	}
	return l
}

// TestSame (E2): nodes are the same just if all that they have is, be they right or not.
func TestSame(t *testing.T) {
	both := api.Node{Level: 4, Pairs: fewPairs().Pairs, Kids: fewKids().Kids}
	for _, x := range []api.Node{{}, {Level: 7}, {Level: -3}, fewPairs(), fewKids(), fullLeaf(), fullInner(), under(api.Key{}), both} {
		if !node.Same(x, x) || !node.Same(x, copied(x)) || !node.Same(copied(x), x) {
			t.Errorf("not the same as itself: %#v", x)
		}
		for _, y := range others(x) {
			if node.Same(x, y) || node.Same(y, x) {
				t.Errorf("the same: %#v, %#v", x, y)
			}
		}
	}
	if node.Same(fewPairs(), fewKids()) || node.Same(fewKids(), fewPairs()) {
		t.Errorf("a leaf is the same as another node")
	}
}

// TestSameWithNone (E2): no items are none, be they nil or empty.
func TestSameWithNone(t *testing.T) {
	empty := api.Node{Pairs: []api.Pair{}, Kids: []api.Kid{}}
	for _, x := range []api.Node{{}, empty, {Pairs: []api.Pair{}}, {Kids: []api.Kid{}}} {
		for _, y := range []api.Node{{}, empty} {
			if !node.Same(x, y) || !node.Same(y, x) {
				t.Errorf("not the same: %#v, %#v", x, y)
			}
		}
	}
}
