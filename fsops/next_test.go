package fsops_test

import (
	"testing"

	"wainscot/api"
)

// numbers is of inodes that may be made, and others.
var numbers = []struct {
	next int
	ok   bool
}{
	{tiny, false}, {-1<<32 + 7, false}, {-1, false}, {0, false}, {1, false},
	{2, true}, {3, true}, {20, true}, {255, true}, {256, true}, {1<<24 + 3, true}, {lastIno - 1, true}, {lastIno, true},
	{1 << 30, false}, {1<<30 + 1, false}, {1<<31 - 1, false}, {1 << 32, false}, {1<<32 + 7, false}, {huge, false},
}

// TestNext (Q1): the inode that is made bears the number next, if there is one.
func TestNext(t *testing.T) {
	for _, c := range numbers {
		v := see(pairs(dirPair(1)))
		if !c.ok {
			refused(t, v, c.next, create("/a"), api.EArg)
			refused(t, v, c.next, mkdir("/a"), api.EArg)
			touched(t, "wrong next", v, spans(oneInode(1), oneEntry(1, "a")), nil)
			continue
		}
		does(t, v, c.next, create("/a"), api.Reply{}, true)
		is(t, "Changes", v.Changes(), with2(entryPair(1, "a", c.next), filePair(c.next, 1, 0)))
		does(t, v, 5, write("/a", 3, "x"), api.Reply{}, false)
		does(t, v, 5, read("/a", 0, 9), api.Reply{Data: "\x00\x00\x00x"}, false)
		holds(t, "next", v)

		v = see(pairs(dirPair(1)))
		does(t, v, c.next, mkdir("/a"), api.Reply{}, true)
		is(t, "Changes", v.Changes(), with2(entryPair(1, "a", c.next), dirPair(c.next)))
		other := 2
		if c.next == other {
			other = 3
		}
		does(t, v, other, create("/a/b"), api.Reply{}, true)
		does(t, v, other, list("/a"), api.Reply{Names: texts("b")}, false)
		holds(t, "next", v)
	}
}

// with2 is the changes that put two pairs.
func with2(a, b api.Pair) []api.Change { return changes(put(a), put(b)) }

// TestNextComesLast (Q1): a wrong next is told behind all else.
func TestNextComesLast(t *testing.T) {
	for _, c := range numbers {
		if c.ok {
			continue
		}
		for _, x := range []struct {
			path string
			want api.Errno
		}{
			{"/", api.EExist}, {"/f", api.EExist}, {"/d", api.EExist}, {"/d/e", api.EExist}, {"/none/x", api.ENone}, {"/f/x", api.ENotDir}, {"/d/f/x", api.ENotDir},
			{"/new", api.EArg}, {"/d/new", api.EArg}, {"new", api.EArg},
		} {
			refused(t, see(yard()), c.next, create(x.path), x.want)
			refused(t, see(yard()), c.next, mkdir(x.path), x.want)
		}
		v := see(with(yard(), gone(inodeKey(2))))
		refused(t, v, c.next, create("/d/new"), api.ECorrupt)
		b := &base{pairs: yard(), fails: 1, err: api.EIO}
		refused(t, b.see(), c.next, create("/new"), api.EIO)
	}
}

// TestNextOfOthers (Q1): no other op looks at next, or makes an inode.
func TestNextOfOthers(t *testing.T) {
	for _, c := range numbers {
		for _, o := range ops(stat("/f"), list("/e"), read("/f", 0, 0), write("/f", 0, "x"), unlink("/f"), rmdir("/e"), rename("/f", "/n"), link("/f", "/n"), truncate("/f", 1)) {
			v, w := see(yard()), see(yard())
			want, _ := doOf(w, 20, o)
			does(t, v, c.next, o, want, false)
			err(t, tell(o), want.Err, api.OK)
			is(t, tell(o), v.Changes(), w.Changes())
		}
	}
}
