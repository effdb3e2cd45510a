package tree

import (
	"slices"

	"wainscot/api"
	"wainscot/node"
	"wainscot/refs"
)

const (
	mostBlocks = 1 << 20
	noTree     = 2 // refs counts two blocks more than a tree may have: the superblocks
)

// Memory is blocks (G1).
type Memory struct {
	counts *refs.Refs
	nodes  map[int]api.Node
}

// NewMemory is one of at most so many (G1).
func NewMemory(most int) *Memory {
	most = min(max(most, 0), mostBlocks)
	return &Memory{counts: refs.New(most + noTree), nodes: map[int]api.Node{}}
}

// Get is the node of a block (G1).
func (m *Memory) Get(n int) (api.Node, api.Errno) {
	x, ok := m.nodes[n]
	if !ok {
		return api.Node{}, api.ECorrupt
	}
	return apart(x), api.OK
}

// Put is a new block (G1).
func (m *Memory) Put(x api.Node) (int, api.Errno) {
	if !node.Right(x) {
		return 0, api.EArg
	}
	n, ok := m.counts.Take()
	if !ok {
		return 0, api.ESpace
	}
	m.nodes[n] = apart(x)
	return n, api.OK
}

// Inc lets one more need a block (G1).
func (m *Memory) Inc(n int) api.Errno {
	if m.counts.Inc(n) != api.OK {
		return api.EArg // whether it is free or no block's number at all: there is none
	}
	return api.OK
}

// Dec lets one less need it (G1).
func (m *Memory) Dec(n int) (bool, api.Errno) {
	free, err := m.counts.Dec(n)
	if err != api.OK {
		return false, api.EArg
	}
	if free {
		delete(m.nodes, n)
	}
	return free, api.OK
}

// Count is how many need a block (G1).
func (m *Memory) Count(n int) int { return m.counts.Count(n) }

// Free is for how many there is room (G1).
func (m *Memory) Free() int { return m.counts.Free() }

// apart is the same node, whose lists nobody else has.
func apart(x api.Node) api.Node {
	return api.Node{Level: x.Level, Pairs: slices.Clone(x.Pairs), Kids: slices.Clone(x.Kids)}
}
