// Package pack is layer 1: see shared/doc/01-pack.md.
package pack

// bound is how many bytes a call may answer at most: nothing is promised beyond it, so a writer that would get there goes wrong rather than run out of memory.
const bound = 1<<31 - 1

// Writer writes fields behind one another.
type Writer struct {
	most  int
	bytes []byte
	wrong bool
}

// New is a writer of at most so many bytes (A1).
func New(most int) *Writer {
	return &Writer{most: min(max(most, 0), bound)}
}

// Byte writes a number in one byte (A1).
func (w *Writer) Byte(v int) { w.small(v, 1) }

// Word writes a number in four bytes (A1).
func (w *Writer) Word(v int) { w.small(v, 4) }

// Long writes a number in eight bytes (A1).
func (w *Writer) Long(v uint64) { w.number(v, 8) }

// Text writes how many bytes s has, and these (A1).
func (w *Writer) Text(s string) {
	// A text that is too long has a length that is no byte: that alone makes it wrong.
	w.Byte(len(s))
	w.Raw(s)
}

// Raw writes the bytes of s (A1).
func (w *Writer) Raw(s string) {
	if w.fits(len(s)) {
		w.bytes = append(w.bytes, s...)
	}
}

// Fill writes noughts, until there are n bytes (A1).
func (w *Writer) Fill(n int) {
	if n < len(w.bytes) {
		w.fail()
		return
	}
	if more := n - len(w.bytes); w.fits(more) {
		w.bytes = append(w.bytes, make([]byte, more)...)
	}
}

// Done is what was written, unless the writer is wrong (A1).
func (w *Writer) Done() ([]byte, bool) {
	if w.wrong {
		return nil, false
	}
	return append([]byte{}, w.bytes...), true
}

// small writes a number that must fit into size bytes, fewer than eight.
func (w *Writer) small(v, size int) {
	if v < 0 || uint64(v)>>(8*size) != 0 {
		w.fail()
		return
	}
	w.number(uint64(v), size)
}

// number writes the lowest size bytes of v, the highest first.
func (w *Writer) number(v uint64, size int) {
	if !w.fits(size) {
		return
	}
	for i := size - 1; i >= 0; i-- {
		w.bytes = append(w.bytes, byte(v>>(8*i)))
	}
}

// fits tells whether n bytes more may be written; without room for them the writer is wrong from now on.
func (w *Writer) fits(n int) bool {
	if !w.wrong && n > w.most-len(w.bytes) {
		w.fail()
	}
	return !w.wrong
}

func (w *Writer) fail() {
	w.wrong = true
	w.bytes = nil // nobody will ask for them any more
}

// Reader reads them again.
type Reader struct {
	rest  []byte
	wrong bool
}

// Read is a reader of b, from the beginning on (A2).
func Read(b []byte) *Reader {
	// A copy: who owns b may write over it.
	return &Reader{rest: append([]byte{}, b...)}
}

// Byte reads a number of one byte (A2).
func (r *Reader) Byte() int { return int(r.number(1)) }

// Word reads a number of four bytes (A2).
func (r *Reader) Word() int { return int(r.number(4)) }

// Long reads a number of eight bytes (A2).
func (r *Reader) Long() uint64 { return r.number(8) }

// Text reads how many bytes a text has, and these (A2).
func (r *Reader) Text() string { return r.Raw(r.Byte()) }

// Raw reads n bytes (A2).
func (r *Reader) Raw(n int) string { return string(r.take(n)) }

// Noughts tells whether all bytes that are left are 0 (A2).
func (r *Reader) Noughts() bool {
	nought := func(i int) bool { return r.rest[i] == 0 }
	return !r.wrong && all(len(r.rest), nought)
}

// Left is how many bytes are left (A2).
func (r *Reader) Left() int { return len(r.rest) }

// Wrong tells whether there were too few bytes (A2).
func (r *Reader) Wrong() bool { return r.wrong }

// number reads size bytes, the highest first.
func (r *Reader) number(size int) uint64 {
	v := uint64(0)
	for _, b := range r.take(size) {
		v = v<<8 | uint64(b)
	}
	return v
}

// take reads n bytes; if there are not as many, it reads none, and the reader is wrong from now on.
func (r *Reader) take(n int) []byte {
	if r.wrong || n < 0 || n > len(r.rest) {
		r.wrong = true
		r.rest = nil // none are left
		return nil
	}
	b := r.rest[:n]
	r.rest = r.rest[n:]
	return b
}

// all tells whether holds is true of each number below n.
func all(n int, holds func(i int) bool) bool {
	for i := range n {
		if !holds(i) {
			return false
		}
	}
	return true
}
