package chunk

import (
	"iter"

	"wainscot/api"
)

// piece is the part of some bytes that stands in one chunk.
type piece struct {
	place    int // the chunk's
	from, to int // where in the chunk it stands
	at       int // where in the bytes it begins
}

// pieces is the pieces of n bytes from off on, one behind the other.
func pieces(off, n int) iter.Seq[piece] {
	return func(yield func(piece) bool) {
		for at := 0; at < n; {
			p := pieceAt(off+at, n-at)
			p.at = at
			if !yield(p) {
				return
			}
			at += p.size()
		}
	}
}

// pieceAt is the first piece of n bytes from off on.
func pieceAt(off, n int) piece {
	from := off % api.Chunk
	return piece{place: off / api.Chunk, from: from, to: min(from+n, api.Chunk)}
}

func (p piece) size() int { return p.to - p.from }

// isWhole tells whether it is all of its chunk.
func (p piece) isWhole() bool { return p.size() == api.Chunk }

// of is the piece of the bytes themselves.
func (p piece) of(data string) string { return data[p.at : p.at+p.size()] }
