package model

import (
	"strings"

	"wainscot/api"
)

// pageSize is how many bytes of a file stand together. A write comes upon two pages at most.
const pageSize = api.MostData

// page is the bytes of a file that stand together, up to the last one that was written; behind them are noughts. It is never changed: clones have the same ones.
type page struct{ own string }

// behind is its own bytes from there on.
func (p page) behind(from int) string { return p.own[min(from, len(p.own)):] }

// over is the page with data over it, from there on. All of it is new memory, for data is not to be kept.
func (p page) over(from int, data string) page {
	b := make([]byte, max(len(p.own), from+len(data)))
	copy(b, p.own)
	copy(b[from:], data)
	return page{string(b)}
}

// cut is its first n bytes. They are new memory, for the others are not to be kept.
func (p page) cut(n int) page { return page{strings.Clone(p.own[:min(n, len(p.own))])} }
