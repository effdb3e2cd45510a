package fsops_test

import (
	"testing"

	"wainscot/api"
	"wainscot/fsops"
	"wainscot/view"
)

// base is a base of pairs that counts what it is asked, and answers an error, with more beside it, at the call fails (0: never), and, if it stays down, from there on.
type base struct {
	pairs        []api.Pair
	asked, fails int
	stays        bool
	err          api.Errno
}

func (b *base) see() *view.View { return view.New(b) }

func (b *base) wrong() bool {
	b.asked++
	return b.asked == b.fails || b.stays && b.fails > 0 && b.asked > b.fails
}

func (b *base) Get(k api.Key) (string, bool, api.Errno) {
	if b.wrong() {
		return fileValue(3, 3), true, b.err
	}
	return view.NewPlain(b.pairs).Get(k)
}

func (b *base) Scan(s api.Span) ([]api.Pair, api.Errno) {
	if b.wrong() {
		return pairs(entryPair(1, "more", 5)), b.err
	}
	return view.NewPlain(b.pairs).Scan(s)
}

// doOf is Do, which a test's own name is in the way of elsewhere.
func doOf(v *view.View, next int, o api.Op) (api.Reply, bool) { return fsops.Do(v, next, o) }

// yardOps is ops that are done on the yard, those that read the most among them.
func yardOps() []api.Op {
	return ops(stat("/"), stat("/d/l"), stat("/d/k/x"), list("/"), list("/d"), read("/f", 0, 9), read("/w", 30, 100), read("/f", 6, 1),
		write("/f", 1, "x"), write("/d/k/x", 39, "xy"), write("/w", 20, many(300)), write("/w", 31, many(34)), write("/o", 0, many(32)), write("/o", 32, ""),
		create("/n"), create("/d/k/n"), mkdir("/n"), mkdir("/d/k/n"), unlink("/f"), unlink("/d/f"), unlink("/w"), unlink("/o"), rmdir("/e"), rmdir("/d/e"),
		rename("/f", "/n"), rename("/d", "/e/n"), rename("/f", "/d/l"), rename("/f", "/w"), rename("/f", "/o"), rename("/o", "/f"), rename("/d/k", "/e"), rename("/d/f", "/d/k/x"),
		link("/f", "/n"), link("/d/l", "/d/k/n"), truncate("/w", 199), truncate("/w", 10), truncate("/w", 300), truncate("/w", 0), truncate("/o", 0),
		// Refused, but for an error ahead of that.
		stat("/d/none"), stat("/f/x"), list("/f"), read("/d", 0, 1), write("/d/k", 0, "x"), create("/d/e"), unlink("/d/k"), rmdir("/d"), rmdir("/d/f"),
		rename("/e", "/d"), rename("/f", "/e"), rename("/e", "/f"), rename("/d", "/d/k/n"), rename("/f", "/none/n"), link("/f", "/o"), link("/f", "/o/n"), link("/d", "/n"), truncate("/d", 0))
}

// ownChanges makes changes that no op of the yard comes upon.
func ownChanges(v *view.View) []api.Change {
	v.Put(inodeKey(900), fileValue(1, 1))
	v.Delete(chunkKey(901, 3))
	return changes(put(filePair(900, 1, 1)), gone(chunkKey(901, 3)))
}

// TestErrors (Q1): an error of the view, at each of its calls, and from each of them on, is answered alone, and the changes are what they were.
func TestErrors(t *testing.T) {
	for _, o := range yardOps() {
		up := &base{pairs: yard()}
		v := up.see()
		want, wantMade := fsops.Do(v, 20, o)
		if up.asked == 0 {
			t.Errorf("%s: nothing is asked", tell(o))
		}
		for _, e := range []api.Errno{api.EIO, api.EArg, api.ENone, api.EExist, api.ENotDir, api.ECorrupt, api.EState, -1, 99} {
			for _, stays := range []bool{false, true} {
				for at := 1; at <= up.asked; at++ {
					b := &base{pairs: yard(), fails: at, stays: stays, err: e}
					v := b.see()
					own := ownChanges(v)
					does(t, v, 20, o, api.Reply{Err: e}, false)
					is(t, "Changes behind "+tell(o), v.Changes(), own)
					if b.asked != at {
						t.Errorf("%s: asked %d times; the error was at %d", tell(o), b.asked, at)
					}
					if n := v.Mark(); n != 0 {
						t.Errorf("%s: Mark: %d", tell(o), n)
					}
				}
			}
			b := &base{pairs: yard(), fails: up.asked + 1, err: e}
			does(t, b.see(), 20, o, want, wantMade)
		}
	}
}

// TestErrorsEnd (Q1): a base that answers again is asked again.
func TestErrorsEnd(t *testing.T) {
	b := &base{pairs: yard(), fails: 2, stays: true, err: api.EIO}
	v := b.see()
	refused(t, v, 20, write("/w", 20, many(300)), api.EIO)
	b.fails = 0
	does(t, v, 20, write("/w", 20, many(300)), api.Reply{}, false)
	does(t, v, 20, stat("/w"), api.Reply{Stat: api.Stat{Links: 1, Size: 320}}, false)
	holds(t, "up again", v)
}

// TestErrorsNotAsked (Q1): what does not hang on the base does not fail with it.
func TestErrorsNotAsked(t *testing.T) {
	b := &base{fails: 1, stays: true, err: api.EIO}
	v := b.see()
	err(t, "Fresh", fsops.Fresh(v), api.OK)
	for _, o := range ops(create("/"), mkdir("/")) {
		refused(t, v, 1, o, api.EExist)
	}
	refused(t, v, 2, unlink("/"), api.EIsDir)
	for _, o := range ops(rmdir("/"), link("/", "/a"), link("/a", "/"), rename("/", "/a"), rename("/a", "/"), stat("a"), truncate("/a", -1), api.Op{Kind: 12, Path: "/"}) {
		refused(t, v, 2, o, api.EArg)
	}
	does(t, v, 2, stat("/"), api.Reply{Stat: api.Stat{Dir: true}}, false)
	if b.asked != 0 {
		t.Errorf("asked %d times", b.asked)
	}
	refused(t, v, 2, stat("/a"), api.EIO)
}

// TestCheckErrors (Q2): an error of the view is answered, and nothing is changed.
func TestCheckErrors(t *testing.T) {
	for _, l := range [][]api.Pair{nil, yard(), pairs(entryPair(1, "a", 2))} {
		for _, e := range []api.Errno{api.EIO, api.EArg, api.ENone, api.ECorrupt, api.EState, -1, 99} {
			up := &base{pairs: l}
			fsops.Check(up.see())
			for at := 1; at <= up.asked; at++ {
				b := &base{pairs: l, fails: at, err: e}
				v := b.see()
				own := ownChanges(v)
				err(t, "Check", fsops.Check(v), e)
				is(t, "Changes", v.Changes(), own)
			}
		}
	}
}
