package model

import "maps"

// inode is a directory or a file.
type inode struct {
	entries map[string]int // of a directory: the number of each name's inode; nil of a file

	links, size int          // of a file
	pages       map[int]page // of a file: its bytes; where there is no page are noughts
}

func newDir() *inode { return &inode{entries: map[string]int{}} }

func newFile() *inode { return &inode{links: 1, pages: map[int]page{}} }

func (x *inode) isDir() bool { return x.entries != nil }

func (x *inode) clone() *inode {
	c := *x
	c.entries, c.pages = maps.Clone(x.entries), maps.Clone(x.pages)
	return &c
}

// bytes is a file's n bytes from off on, or as many as there are.
func (x *inode) bytes(off, n int) string {
	off = min(off, x.size)
	b := make([]byte, min(n, x.size-off))
	for at := 0; at < len(b); {
		place, from := (off+at)/pageSize, (off+at)%pageSize
		copy(b[at:], x.pages[place].behind(from))
		at += pageSize - from
	}
	return string(b)
}

// set lets a file's bytes from off on be data's, of which there is one at least.
func (x *inode) set(off int, data string) {
	x.size = max(x.size, off+len(data))
	for data != "" {
		place, from := off/pageSize, off%pageSize
		n := min(len(data), pageSize-from)
		x.pages[place] = x.pages[place].over(from, data[:n])
		off, data = off+n, data[n:]
	}
}

// resize lets a file have n bytes. Behind its size nothing may stand, for it would be there again when the file grows.
func (x *inode) resize(n int) {
	maps.DeleteFunc(x.pages, func(place int, _ page) bool { return place*pageSize >= n })
	if p, ok := x.pages[n/pageSize]; ok {
		x.pages[n/pageSize] = p.cut(n % pageSize)
	}
	x.size = n
}
