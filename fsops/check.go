package fsops

import (
	"wainscot/api"
	"wainscot/inode"
	"wainscot/key"
	"wainscot/name"
)

// census is what the pairs of a map say.
type census struct {
	inodes map[int]api.Inode // by their numbers
	told   map[int]int       // by the number of an inode: how many entries tell it
	parent map[int]int       // by the number of an inode: the directory that has its entry, or one of them
}

// holds tells whether a map, whose keys rise, holds a file system.
func holds(l []api.Pair) bool {
	c := &census{inodes: map[int]api.Inode{}, told: map[int]int{}, parent: map[int]int{}}
	for _, x := range l {
		if !c.count(x) {
			return false
		}
	}
	return c.inodes[api.Root].Dir && c.areTold() && c.areThere() && c.noneAboveItself()
}

// count takes a pair in, and tells whether there may be such a one. An inode's is ahead of those that hang on it: its kind is the least.
func (c *census) count(x api.Pair) bool {
	p, ok := key.Of(x.Key)
	if !ok {
		return false
	}
	switch p.Kind {
	case api.KindInode:
		return c.countInode(p, x.Value)
	case api.KindEntry:
		return c.countEntry(p, x.Value)
	}
	return c.mayBeChunk(p, x.Value)
}

func (c *census) countInode(p key.Parts, value string) bool {
	x, ok := inode.Of(value)
	c.inodes[p.Ino] = x
	return ok
}

func (c *census) countEntry(p key.Parts, value string) bool {
	ino, ok := inode.Numbered(value)
	c.told[ino]++
	c.parent[ino] = p.Ino
	return ok && c.inodes[p.Ino].Dir && name.Right(p.Name)
}

// mayBeChunk tells whether a file has such a chunk. What is no file has no byte.
func (c *census) mayBeChunk(p key.Parts, value string) bool {
	right := value != "" && value == inode.Trim(value)
	return right && p.Place*api.Chunk+len(value) <= c.inodes[p.Ino].Size
}

// areTold tells whether each inode has as many entries as it has to.
func (c *census) areTold() bool {
	for ino, x := range c.inodes {
		if c.told[ino] != entriesOf(ino, x) {
			return false
		}
	}
	return true
}

// areThere tells whether each number that an entry tells is an inode's.
func (c *census) areThere() bool {
	for ino := range c.told {
		if _, ok := c.inodes[ino]; !ok {
			return false
		}
	}
	return true
}

// noneAboveItself tells whether from each directory the way up leads to the root, where each but the root has one entry.
func (c *census) noneAboveItself() bool {
	climbed := map[int]int{api.Root: 0} // by the number of a directory: from which one the way first came to it
	for ino, x := range c.inodes {
		if x.Dir && !c.climb(ino, climbed) {
			return false
		}
	}
	return true
}

// climb tells whether the way up from a directory does not come upon itself. It ends where another way has been.
func (c *census) climb(first int, climbed map[int]int) bool {
	for at := first; ; at = c.parent[at] {
		if from, ok := climbed[at]; ok {
			return from != first
		}
		climbed[at] = first
	}
}
