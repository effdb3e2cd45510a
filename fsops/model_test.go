package fsops_test

import (
	"slices"
	"testing"

	"wainscot/api"
	"wainscot/delta"
	"wainscot/fsops"
	"wainscot/model"
)

// both is a map, the number of the inode that is made next, and the model beside it.
type both struct {
	l    []api.Pair
	next int
	m    *model.Model
}

func bothOf(t *testing.T, l ...api.Op) both {
	t.Helper()
	b := both{pairs(dirPair(1)), 2, model.New()}
	for _, o := range l {
		b.do(t, o)
	}
	return b
}

func (b *both) clone() both { return both{b.l, b.next, b.m.Clone()} }

// do does an op in a view of the map, and asks for what the model answers, for what the words say of what is read and changed, and that the map holds a file system again.
func (b *both) do(t *testing.T, o api.Op) {
	t.Helper()
	v, want := see(b.l), b.m.Do(o)
	made := want.Err == api.OK && (o.Kind == api.OpCreate || o.Kind == api.OpMkdir)
	does(t, v, b.next, o, want, made)
	is(t, tell(o)+": Reads", v.Reads(), reads(b.l, o))
	if want.Err == api.OK && o.Kind >= api.OpWrite {
		b.change(t, o, v.Changes(), made)
	} else {
		is(t, tell(o)+": Changes", v.Changes(), nil)
	}
}

// change asks for the changes of an op, and makes them.
func (b *both) change(t *testing.T, o api.Op, c []api.Change, made bool) {
	t.Helper()
	after := with(b.l, c...)
	is(t, tell(o)+": Changes", c, fewest(b.l, after, o))
	if !isFileSystem(after) {
		t.Errorf("%s: there is no file system any more: %s", tell(o), lines(after))
	}
	err(t, tell(o)+": Check", fsops.Check(see(after)), api.OK)
	isNext := slices.ContainsFunc(c, func(x api.Change) bool { return x.Key == inodeKey(b.next) && !x.Gone })
	if isNext != made {
		t.Errorf("%s: there is %d: %v; want %v", tell(o), b.next, isNext, made)
	}
	b.l = after
	if made {
		b.next++
	}
}

// fewest is the delta with the fewest changes; but a write changes each chunk in which it has a byte.
func fewest(before, after []api.Pair, o api.Op) []api.Change {
	c := delta.Diff(before, after)
	if o.Kind != api.OpWrite || o.Data == "" {
		return c
	}
	p, _ := plainOf(before)
	ino := p.names(o.Path)
	for place := o.Off / 32; place*32 < o.Off+len(o.Data); place++ {
		x := gone(chunkKey(ino, place))
		for _, y := range after {
			if y.Key == x.Key {
				x = put(y)
			}
		}
		c = append(c, x)
	}
	return delta.Join(c)
}

// same asks for the same of the map and the model.
func (b *both) same(t *testing.T, what string) {
	t.Helper()
	if got, want := whole(&system{see(b.l), b.next}), whole(b.m); got != want {
		t.Errorf("%s: there is\n%.2000swant\n%.2000s", what, got, want)
	}
}

// shortSteps is ops that come across each other.
func shortSteps() []api.Op {
	return ops(mkdir("/a"), mkdir("/b"), create("/a"), create("/a/b"), link("/a/b", "/c"), link("/a", "/c"), rename("/a", "/b"), rename("/b", "/a/b"),
		rename("/a/b", "/b"), rename("/c", "/a"), unlink("/c"), unlink("/a/b"), rmdir("/a"), rmdir("/b"), write("/c", 1, "x"), write("/a/b", 31, "yz"), truncate("/a", 2), truncate("/c", 32))
}

// TestShortWays (Q1): all ways of three such ops from some beginnings, against the model and the words.
func TestShortWays(t *testing.T) {
	l := shortSteps()
	var on func(b both, way []int)
	on = func(b both, way []int) {
		if len(way) == 3 {
			b.same(t, "in the end")
			return
		}
		for i, o := range l {
			c := b.clone()
			c.do(t, o)
			next := append(way[:len(way):len(way)], i)
			if t.Failed() {
				t.Fatalf("way %v", next)
			}
			on(c, next)
		}
	}
	on(bothOf(t), nil)
	on(bothOf(t, mkdir("/a"), create("/a/b"), link("/a/b", "/c"), write("/c", 30, "abc")), nil)
	on(bothOf(t, mkdir("/b"), mkdir("/a"), mkdir("/a/b"), create("/c")), nil)
}

// path is one of few names, or none, one behind the other.
func (d *dice) path() string {
	if d.below(40) == 0 {
		return thrown(d, "/", "", "/a/", "a", "/..", "//a")
	}
	path := ""
	for range 1 + d.below(3) {
		path += thrown(d, "/a", "/b", "/c", "/ab")
	}
	return path
}

// number is small, or about the edges.
func (d *dice) number() int {
	switch d.below(30) {
	case 0:
		return thrown(d, -1, tiny, huge, most+1, most+once)
	case 1:
		return thrown(d, most, most-1, most-once, most-2*once)
	case 2, 3, 4:
		return thrown(d, 31, 32, 33, 63, 64, 200, once-1, once, once+1)
	}
	return d.below(12)
}

// data is a few bytes, noughts among them, or a great many.
func (d *dice) data() string {
	switch d.below(16) {
	case 0:
		return many(thrown(d, once, once+1, 1000))
	case 1:
		return ""
	}
	return thrown(d, "a", "bc", "\x00", "d\x00", "\x00e", "hello", noughts(20), many(32), many(40), noughts(70))
}

func (d *dice) op() api.Op {
	kind := thrown(d, 1, 2, 3, 3, 4, 4, 4, 5, 5, 5, 6, 6, 6, 7, 8, 9, 9, 9, 9, 10, 10, 10, 11, 11)
	return api.Op{Kind: kind, Path: d.path(), To: d.path(), Off: d.number(), N: d.number(), Data: d.data()}
}

// TestLongWays (Q1, Q2, R4): by many ops that look thrown, against the model and the words; twice, with the same answers.
func TestLongWays(t *testing.T) {
	for turn := range 2 * 60 {
		d := dice(turn % 60)
		b := bothOf(t)
		for range 200 {
			b.do(t, d.op())
		}
		b.same(t, "in the end")
		if t.Failed() {
			t.Fatalf("by the dice %d", turn%60)
		}
	}
}

// TestOneView (Q1, Q2): the same in one view, in which the changes of all ops stand, with marks that are gone back to.
func TestOneView(t *testing.T) {
	for turn := range 100 {
		d := dice(1000 + turn)
		s, m := fresh(t), model.New()
		marks := []*model.Model{m.Clone()}
		s.v.Mark()
		for range 250 {
			o := d.op()
			s.replies(t, o, m.Do(o))
			switch d.below(40) {
			case 0:
				if n := s.v.Mark(); n != len(marks) {
					t.Fatalf("Mark: %d; want %d: an op has made one", n, len(marks))
				}
				marks = append(marks, m.Clone())
			case 1:
				at := d.below(len(marks))
				err(t, "Back", s.v.Back(at), api.OK)
				m, marks = marks[at].Clone(), marks[:at+1]
			case 2:
				holds(t, tell(o), s.v)
			}
		}
		if got, want := whole(s), whole(m); got != want {
			t.Errorf("there is\n%.2000swant\n%.2000s", got, want)
		}
		holds(t, "in the end", s.v)
		if !isFileSystem(all(t, s.v)) {
			t.Error("there is no file system any more")
		}
		if t.Failed() {
			t.Fatalf("by the dice %d", 1000+turn)
		}
	}
}
