package fsops

import (
	"wainscot/api"
	"wainscot/chunk"
	"wainscot/dir"
	"wainscot/name"
)

// named is the steps to the inode that a path has to name.
func (t *task) named(s *spot) step { return inTurn(t.walk(s), t.find(s), isThere(s), t.ask(s)) }

// unnamed is the steps to where a path's entry will stand. Of what stands there no more is read than that it does; of the root, which is always there, nothing.
func (t *task) unnamed(s *spot) step { return inTurn(t.walk(s), t.find(s), isNew(s)) }

func (t *task) walk(s *spot) step {
	return func() (err api.Errno) {
		s.at, err = t.seen.walk(s.path)
		return err
	}
}

func (t *task) find(s *spot) step {
	return func() (err api.Errno) {
		if s.path == root { // which is no entry's
			s.ino = api.Root
			return api.OK
		}
		s.ino, err = t.seen.find(s.at)
		return err
	}
}

func (t *task) ask(s *spot) step {
	return func() (err api.Errno) {
		s.inode, err = t.seen.ask(s.ino)
		return err
	}
}

func isThere(s *spot) step {
	return func() api.Errno { return unless(s.ino != 0, api.ENone) }
}

func isNew(s *spot) step {
	return func() api.Errno { return unless(s.ino == 0, api.EExist) }
}

func isDir(s *spot) step {
	return func() api.Errno { return unless(s.inode.Dir, api.ENotDir) }
}

func isFile(s *spot) step {
	return func() api.Errno { return unless(!s.inode.Dir, api.EIsDir) }
}

func (t *task) isEmpty(s *spot) step {
	return func() api.Errno {
		empty, err := dir.Empty(t.view, s.ino)
		if err != api.OK {
			return err
		}
		return unless(empty, api.ENotEmpty)
	}
}

// notRoot fails with that error if it is the root.
func notRoot(s *spot, err api.Errno) step {
	return func() api.Errno { return unless(s.path != root, err) }
}

// notBelow fails if to would be in from, which is a directory then: no path leads to below a file.
func notBelow(to, from *spot) step {
	return func() api.Errno {
		return unless(to.path == from.path || !name.Below(to.path, from.path), api.EArg)
	}
}

// stat tells of what the Path names.
func (t *task) stat() api.Errno {
	x := t.from.inode
	t.reply.Stat = api.Stat{Dir: x.Dir, Links: x.Links, Size: x.Size} // the last two are 0 of a directory
	return api.OK
}

// list tells a directory's names.
func (t *task) list() api.Errno {
	names, err := dir.List(t.view, t.from.ino)
	for _, n := range names {
		if !name.Right(n) { // there is room in keys for more than names
			return api.ECorrupt
		}
	}
	t.reply.Names = names
	return err
}

// read tells a file's bytes, as many as there are.
func (t *task) read() (err api.Errno) {
	off := min(t.op.Off, t.from.inode.Size)
	n := min(t.op.N, t.from.inode.Size-off)
	t.reply.Data, err = chunk.Read(t.view, t.from.ino, off, n)
	return err
}
