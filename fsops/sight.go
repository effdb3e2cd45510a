package fsops

import (
	"slices"

	"wainscot/api"
	"wainscot/dir"
	"wainscot/inode"
	"wainscot/key"
	"wainscot/name"
	"wainscot/view"
)

// place is where an entry stands, or may.
type place struct {
	dir  int
	name string
}

// sight is what an op has seen of a view. It is kept to be held against itself: a view of which no file system has all that was seen holds none.
type sight struct {
	view   *view.View
	inodes map[int]api.Inode // by their numbers
	told   map[int][]place   // by the number of an inode: the entries that tell it
}

func newSight(v *view.View) *sight {
	return &sight{view: v, inodes: map[int]api.Inode{}, told: map[int][]place{}}
}

// walk is where the entry of a path stands, or why there is no such place. The root's has no name.
func (s *sight) walk(path string) (place, api.Errno) {
	names, _ := name.Split(path) // it was asked whether it is a path
	at := place{dir: api.Root}
	for i, n := range names {
		if i > 0 {
			ino, err := s.find(at)
			if err == api.OK && ino == 0 {
				err = api.ENone
			}
			if err != api.OK {
				return place{}, err
			}
			at.dir = ino
		}
		x, err := s.ask(at.dir)
		if err == api.OK && !x.Dir {
			err = api.ENotDir
		}
		if err != api.OK {
			return place{}, err
		}
		at.name = n
	}
	return at, api.OK
}

// find is the number that an entry tells; 0, if there is none.
func (s *sight) find(at place) (int, api.Errno) {
	ino, there, err := dir.Find(s.view, at.dir, at.name)
	if err != api.OK || !there {
		return 0, err
	}
	if !slices.Contains(s.told[ino], at) {
		s.told[ino] = append(s.told[ino], at)
	}
	return ino, s.mayBe(ino)
}

// ask is the inode of a number that an entry tells, or the root.
func (s *sight) ask(ino int) (api.Inode, api.Errno) {
	k, _ := key.Inode(ino)
	value, _, err := s.view.Get(k)
	if err != api.OK {
		return api.Inode{}, err
	}
	x, ok := inode.Of(value) // where there is none, the value has no byte, and says nothing
	if !ok || ino == api.Root && !x.Dir {
		return api.Inode{}, api.ECorrupt
	}
	s.inodes[ino] = x
	return x, s.mayBe(ino)
}

// mayBe asks whether no more entries tell an inode than it has.
func (s *sight) mayBe(ino int) api.Errno {
	x, ok := s.inodes[ino]
	return unless(!ok || len(s.told[ino]) <= entriesOf(ino, x), api.ECorrupt)
}

// entriesOf is how many entries an inode has.
func entriesOf(ino int, x api.Inode) int {
	switch {
	case ino == api.Root:
		return 0
	case x.Dir:
		return 1
	}
	return x.Links
}
