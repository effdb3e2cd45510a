package model

import (
	"maps"
	"slices"

	"wainscot/api"
	"wainscot/name"
)

const mostLinks = 65535 // of a file

func (m *Model) stat(o api.Op) api.Reply {
	s, err := m.named(o.Path)
	if err != api.OK {
		return wrong(err)
	}
	if s.inode.isDir() {
		return api.Reply{Stat: api.Stat{Dir: true}}
	}
	return api.Reply{Stat: api.Stat{Links: s.inode.links, Size: s.inode.size}}
}

func (m *Model) list(o api.Op) api.Reply {
	s, err := m.named(o.Path)
	if err != api.OK {
		return wrong(err)
	}
	if !s.inode.isDir() {
		return wrong(api.ENotDir)
	}
	return api.Reply{Names: slices.Sorted(maps.Keys(s.inode.entries))}
}

func (m *Model) read(o api.Op) api.Reply {
	s, err := m.file(o.Path)
	if err != api.OK {
		return wrong(err)
	}
	return api.Reply{Data: s.inode.bytes(o.Off, o.N)}
}

func (m *Model) write(o api.Op) api.Errno {
	s, err := m.file(o.Path)
	if err != api.OK || o.Data == "" { // without a byte the file does not even grow
		return err
	}
	s.inode.set(o.Off, o.Data)
	return api.OK
}

func (m *Model) truncate(o api.Op) api.Errno {
	s, err := m.file(o.Path)
	if err != api.OK {
		return err
	}
	s.inode.resize(o.N)
	return api.OK
}

func (m *Model) create(o api.Op) api.Errno { return m.enter(o.Path, newFile()) }

func (m *Model) mkdir(o api.Op) api.Errno { return m.enter(o.Path, newDir()) }

// enter lets a path that names nothing name a new inode.
func (m *Model) enter(path string, x *inode) api.Errno {
	s, err := m.walk(path)
	if err != api.OK {
		return err
	}
	if s.inode != nil { // so is the root's
		return api.EExist
	}
	s.put(m.add(x))
	return api.OK
}

func (m *Model) unlink(o api.Op) api.Errno {
	s, err := m.file(o.Path)
	if err != api.OK {
		return err
	}
	m.remove(s)
	return api.OK
}

func (m *Model) rmdir(o api.Op) api.Errno {
	if o.Path == root {
		return api.EArg
	}
	s, err := m.named(o.Path)
	switch {
	case err != api.OK:
		return err
	case !s.inode.isDir():
		return api.ENotDir
	case len(s.inode.entries) > 0:
		return api.ENotEmpty
	}
	m.remove(s)
	return api.OK
}

func (m *Model) link(o api.Op) api.Errno {
	if o.Path == root || o.To == root {
		return api.EArg
	}
	s, err := m.file(o.Path)
	if err != api.OK {
		return err
	}
	to, err := m.walk(o.To)
	switch {
	case err != api.OK:
		return err
	case to.inode != nil:
		return api.EExist
	case s.inode.links == mostLinks:
		return api.ETooBig
	}
	s.inode.links++
	to.put(s.ino)
	return api.OK
}

func (m *Model) rename(o api.Op) api.Errno {
	if o.Path == root || o.To == root {
		return api.EArg
	}
	s, err := m.named(o.Path)
	if err != api.OK {
		return err
	}
	to, err := m.walk(o.To)
	switch {
	case err != api.OK:
		return err
	case s.inode.isDir() && o.To != o.Path && name.Below(o.To, o.Path):
		return api.EArg
	case s.inode == to.inode:
		return api.OK
	}
	return m.move(s, to)
}

// move lets the entry to be the inode's that s leads to, instead of s, and of what to leads to.
func (m *Model) move(s, to spot) api.Errno {
	if to.inode != nil {
		if err := mayReplace(s.inode, to.inode); err != api.OK {
			return err
		}
		m.remove(to)
	}
	delete(s.parent.entries, s.name)
	to.put(s.ino)
	return api.OK
}

// mayReplace is why an inode can't be in the place of another one.
func mayReplace(x, old *inode) api.Errno {
	switch {
	case !x.isDir() && old.isDir():
		return api.EIsDir
	case x.isDir() && !old.isDir():
		return api.ENotDir
	case len(old.entries) > 0:
		return api.ENotEmpty
	}
	return api.OK
}
