package model

import (
	"strings"

	"wainscot/api"
	"wainscot/name"
)

const root = "/"

// spot is where a path leads.
type spot struct {
	parent *inode // nil of the root
	name   string // of the entry in it, if there is one or not
	ino    int    // 0, if the path names nothing
	inode  *inode // nil, if the path names nothing
}

// walk is where a path leads, or why it leads nowhere.
func (m *Model) walk(path string) (spot, api.Errno) {
	names, _ := name.Split(path) // Do has asked whether it is a path
	s := spot{ino: api.Root, inode: m.inodes[api.Root]}
	for _, n := range names {
		if s.inode == nil {
			return spot{}, api.ENone
		}
		if !s.inode.isDir() {
			return spot{}, api.ENotDir
		}
		ino := s.inode.entries[n]
		s = spot{parent: s.inode, name: n, ino: ino, inode: m.inodes[ino]}
	}
	return s, api.OK
}

// named is where a path leads that has to name something.
func (m *Model) named(path string) (spot, api.Errno) {
	s, err := m.walk(path)
	if err == api.OK && s.inode == nil {
		return spot{}, api.ENone
	}
	return s, err
}

// file is where a path leads that has to name a file.
func (m *Model) file(path string) (spot, api.Errno) {
	s, err := m.named(path)
	if err == api.OK && s.inode.isDir() {
		return spot{}, api.EIsDir
	}
	return s, err
}

// add lets there be one inode more, and answers its number.
func (m *Model) add(x *inode) int {
	ino := m.next
	m.inodes[ino] = x
	m.next++
	return ino
}

// put lets the entry be this inode's.
func (s spot) put(ino int) {
	// Cloned, as the path that the name is a piece of is not to be kept.
	s.parent.entries[strings.Clone(s.name)] = ino
}

// remove takes the entry away, and what it leads to, unless that is a file with other links. A directory has none.
func (m *Model) remove(s spot) {
	delete(s.parent.entries, s.name)
	s.inode.links--
	if s.inode.links < 1 {
		delete(m.inodes, s.ino)
	}
}
