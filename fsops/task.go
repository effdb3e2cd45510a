package fsops

import (
	"wainscot/api"
	"wainscot/name"
	"wainscot/view"
)

const (
	root      = "/"
	mostLinks = 65535 // of a file
)

// task is an op that is being done.
type task struct {
	view     *view.View
	next     int
	op       api.Op
	seen     *sight
	from, to spot // of its Path, and of its To

	reply api.Reply
	made  bool
}

// spot is where a path leads, as far as that was asked.
type spot struct {
	path  string
	at    place // of the entry, be there one or not; the root has none
	ino   int   // of the inode that it names; 0, if it names nothing
	inode api.Inode
}

func newTask(v *view.View, next int, o api.Op) *task {
	return &task{view: v, next: next, op: o, seen: newSight(v), from: spot{path: o.Path}, to: spot{path: o.To}}
}

// deed is what an op does: the steps of its row, in the order in which the model's words have them.
func (t *task) deed() step {
	from, to := &t.from, &t.to
	switch t.op.Kind {
	case api.OpStat:
		return inTurn(t.named(from), t.stat)
	case api.OpList:
		return inTurn(t.named(from), isDir(from), t.list)
	case api.OpRead:
		return inTurn(t.named(from), isFile(from), t.read)
	case api.OpWrite:
		return inTurn(t.named(from), isFile(from), t.write)
	case api.OpCreate:
		return inTurn(t.unnamed(from), t.create(api.Inode{Links: 1}))
	case api.OpMkdir:
		return inTurn(t.unnamed(from), t.create(api.Inode{Dir: true}))
	case api.OpUnlink:
		return inTurn(notRoot(from, api.EIsDir), t.named(from), isFile(from), t.remove(from), t.drop(from))
	case api.OpRmdir:
		return inTurn(notRoot(from, api.EArg), t.named(from), isDir(from), t.isEmpty(from), t.remove(from), t.drop(from))
	case api.OpRename:
		return inTurn(notRoot(from, api.EArg), notRoot(to, api.EArg),
			t.walk(from), t.find(from), isThere(from), t.walk(to), t.ask(from), notBelow(to, from), t.find(to), t.move)
	case api.OpLink:
		return inTurn(notRoot(from, api.EArg), notRoot(to, api.EArg), t.named(from), isFile(from), t.unnamed(to), t.link)
	case api.OpTruncate:
		return inTurn(t.named(from), isFile(from), t.cut(from, t.op.N), t.resize(from, t.op.N))
	}
	return fails(api.EArg)
}

// arePaths asks whether each text is a path that has to be one.
func (t *task) arePaths() api.Errno {
	two := t.op.Kind == api.OpLink || t.op.Kind == api.OpRename
	return unless(isPath(t.op.Path) && (!two || isPath(t.op.To)), api.EArg)
}

func isPath(text string) bool {
	_, ok := name.Split(text)
	return ok
}

// areNumbers asks what is wrong with the op's numbers.
func (t *task) areNumbers() api.Errno {
	o := t.op
	switch o.Kind {
	case api.OpRead:
		return bounds(o.Off < 0 || o.N < 0, o.N > api.MostData)
	case api.OpWrite:
		// They are not added: the sum may be beyond all numbers.
		return bounds(o.Off < 0, len(o.Data) > api.MostData || o.Off > api.MaxSize-len(o.Data))
	case api.OpTruncate:
		return bounds(o.N < 0, o.N > api.MaxSize)
	}
	return api.OK
}

// bounds is the error of numbers that are below what they may be, or above it.
func bounds(below, above bool) api.Errno {
	if below {
		return api.EArg
	}
	return unless(!above, api.ETooBig)
}
