package view

import (
	"bytes"
	"slices"

	"wainscot/api"
	"wainscot/delta"
	"wainscot/key"
)

// Base is a map that somebody sees.
type Base interface {
	Get(k api.Key) (string, bool, api.Errno)
	Scan(s api.Span) ([]api.Pair, api.Errno)
}

// sized is what a base may have beside.
type sized interface {
	Len() int
}

// Plain is a base of pairs (L1).
type Plain struct {
	pairs []api.Pair // their keys rise, so that they are found by halving
}

// NewPlain is a base of the map that l is taken for (L1).
func NewPlain(l []api.Pair) *Plain { return &Plain{pairs: delta.Map(l)} }

// Get is a key's value (L1).
func (p *Plain) Get(k api.Key) (string, bool, api.Errno) {
	at, ok := p.find(k)
	if !ok {
		return "", false, api.OK
	}
	return p.pairs[at].Value, true, api.OK
}

// Scan is all pairs in a span (L1).
func (p *Plain) Scan(s api.Span) ([]api.Pair, api.Errno) {
	from, _ := p.find(s.From)
	to := from
	for to < len(p.pairs) && key.In(s, p.pairs[to].Key) {
		to++
	}
	return slices.Clone(p.pairs[from:to]), api.OK
}

// Len is how many pairs it has (L1).
func (p *Plain) Len() int { return len(p.pairs) }

// find is where k stands, or would, and whether it does.
func (p *Plain) find(k api.Key) (int, bool) {
	return slices.BinarySearchFunc(p.pairs, k, func(x api.Pair, k api.Key) int { return bytes.Compare(x.Key[:], k[:]) })
}

// Size is how many pairs a base has, if it tells (L4).
func Size(b Base) (int, bool) { return size(b) }

// As is x as a base, if it is one (L4).
func As(x any) (Base, bool) { return as(x) }

// size and as stand apart from Size and As since no call that the document lists asserts what it is handed (LANGUAGE.md, rule 3).
func size(b Base) (int, bool) {
	if s, ok := b.(sized); ok {
		return s.Len(), true
	}
	return 0, false
}

func as(x any) (Base, bool) {
	if b, ok := x.(Base); ok {
		return b, true
	}
	return nil, false
}
