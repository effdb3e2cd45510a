package fsops

import (
	"wainscot/api"
	"wainscot/chunk"
	"wainscot/dir"
	"wainscot/inode"
	"wainscot/key"
	"wainscot/view"
)

// create lets an entry that is new be that of a new inode.
func (t *task) create(x api.Inode) step {
	return inTurn(
		func() api.Errno { return unless(api.Root < t.next && t.next < api.MaxIno, api.EArg) },
		func() api.Errno { return put(t.view, t.next, x) },
		func() api.Errno { return dir.Put(t.view, t.from.at.dir, t.from.at.name, t.next) },
		func() api.Errno { t.made = true; return api.OK },
	)
}

// link lets an entry that is new be that of a file.
func (t *task) link() api.Errno {
	more := t.from.inode
	more.Links++
	return inTurn(
		func() api.Errno { return unless(more.Links <= mostLinks, api.ETooBig) },
		t.change(&t.from, more),
		t.enter(&t.to, &t.from),
	)()
}

// move lets To's entry be that of what Path names, instead of Path's.
func (t *task) move() api.Errno {
	from, to := &t.from, &t.to
	if to.ino == from.ino {
		return api.OK
	}
	replace := inTurn()
	if to.ino != 0 {
		replace = inTurn(t.ask(to), t.mayReplace(to, from), t.remove(to))
	}
	return inTurn(replace, t.drop(from), t.enter(to, from))()
}

// mayReplace asks whether from can be in the place of to.
func (t *task) mayReplace(to, from *spot) step {
	if from.inode.Dir {
		return inTurn(isDir(to), t.isEmpty(to))
	}
	return isFile(to)
}

// write lets bytes of a file be the op's.
func (t *task) write() api.Errno {
	o, s := t.op, &t.from
	if o.Data == "" { // without a byte the file does not even grow
		return api.OK
	}
	return inTurn(
		func() api.Errno { return chunk.Write(t.view, s.ino, o.Off, o.Data) },
		t.resize(s, max(s.inode.Size, o.Off+len(o.Data))),
	)()
}

// cut takes away a file's bytes from there on. Where there is none, its chunks are not even looked for.
func (t *task) cut(s *spot, size int) step {
	return func() api.Errno {
		if size >= s.inode.Size {
			return api.OK
		}
		return chunk.Cut(t.view, s.ino, size)
	}
}

// resize tells how many bytes a file has.
func (t *task) resize(s *spot, size int) step {
	return func() api.Errno {
		x := s.inode
		x.Size = size
		return t.change(s, x)()
	}
}

// remove lets a file have a link less; with none left it is gone, as is a directory.
func (t *task) remove(s *spot) step {
	return func() api.Errno {
		less := s.inode
		less.Links--
		if less.Links > 0 {
			return t.change(s, less)()
		}
		k, _ := key.Inode(s.ino)
		return inTurn(t.cut(s, 0), func() api.Errno { return t.view.Delete(k) })()
	}
}

// drop takes an entry away.
func (t *task) drop(s *spot) step {
	return func() api.Errno { return dir.Drop(t.view, s.at.dir, s.at.name) }
}

// enter lets to's entry be that of the inode that from is.
func (t *task) enter(to, from *spot) step {
	return func() api.Errno { return dir.Put(t.view, to.at.dir, to.at.name, from.ino) }
}

// change lets an inode be so. One that is so already is not written: who has read it would be in its way.
func (t *task) change(s *spot, x api.Inode) step {
	return func() api.Errno {
		if x == s.inode {
			return api.OK
		}
		return put(t.view, s.ino, x)
	}
}

// put writes the value of an inode.
func put(v *view.View, ino int, x api.Inode) api.Errno {
	k, _ := key.Inode(ino)
	value, _ := inode.Value(x) // of what is no inode it has no byte, and is not taken
	return v.Put(k, value)
}
