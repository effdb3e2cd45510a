package model_test

import (
	"strings"
	"testing"

	"wainscot/api"
	"wainscot/model"
)

// noPaths is texts that are no paths; some would lead somewhere if they were taken for one.
var noPaths = []string{
	"", "d", "f", "d/f", "//", "//d", "/d/", "/d/f/", "/d//f", "/f/", "/.", "/..", "/d/.", "/d/..", "/d/../f", "/./f", "/d/e/../f",
	" /f", "/\x00", "/f\x00", "/f\n", "/\x7f", "/\xff", "/f\xff", "/\xc3", "/d\xc0\xaff", "\\f", "/nineteen bytes, all", strings.Repeat("/a", 101), "/e" + strings.Repeat("/eighteen bytes, ok", 11), strings.Repeat("/", 1<<20), many(1 << 20),
}

// kinds is all kinds of ops.
func kinds() []int { return []int{1, 2, 3, 4, 5, 6, 7, 8, 9, 10, 11} }

// TestNoPath (O1): of every op, EArg of what is no path, whatever the rest is.
func TestNoPath(t *testing.T) {
	m := yard(t)
	was := whole(m)
	for _, kind := range kinds() {
		for _, text := range noPaths {
			for _, off := range []int{0, -1, most + 1} {
				for _, n := range []int{0, once + 1, -1, most + 1} {
					replies(t, m, api.Op{Kind: kind, Path: text, To: "/m", Off: off, N: n, Data: many(off & 1 * (once + 1))}, api.Reply{Err: api.EArg})
				}
			}
		}
	}
	is(t, "behind all of them", m, was)
}

// TestNoPathTo (OpLink, OpRename): EArg, if To is no path, ahead of all that is wrong with Path.
func TestNoPathTo(t *testing.T) {
	m := yard(t)
	was := whole(m)
	for _, path := range append(texts("/", "/f", "/d", "/e", "/n", "/n/n", "/f/n", "/f/n/n", "/o"), noPaths[:9]...) {
		for _, text := range noPaths {
			replies(t, m, link(path, text), api.Reply{Err: api.EArg})
			replies(t, m, rename(path, text), api.Reply{Err: api.EArg})
		}
	}
	is(t, "behind all of them", m, was)
}

// TestNoKind (O1): an op of no kind is EArg, whatever the rest is.
func TestNoKind(t *testing.T) {
	m := yard(t)
	was := whole(m)
	for _, kind := range []int{0, -1, 12, 13, 100, 256 + 1, 1<<32 + 1, 1<<32 + 5, huge, tiny, -11} {
		for _, path := range texts("/", "/f", "/d", "/n", "/n/n", "/f/n", "", "/d/") {
			for _, n := range []int{0, 1, -1, once + 1} {
				replies(t, m, api.Op{Kind: kind, Path: path, To: "/m", Off: n, N: n, Data: "x"}, api.Reply{Err: api.EArg})
			}
		}
	}
	is(t, "behind all of them", m, was)
}

// TestFirst (O1): of several errors the first one that applies.
func TestFirst(t *testing.T) {
	m := yard(t)
	long := many(once + 1)
	for _, c := range []struct {
		o    api.Op
		want api.Errno
	}{
		// A path that is none, ahead of numbers.
		{read("f", 0, once+1), api.EArg}, {write("f", most+1, "x"), api.EArg}, {write("f", 0, long), api.EArg}, {truncate("f", most+1), api.EArg},
		// Numbers below what they may be, ahead of those above.
		{read("/f", -1, once+1), api.EArg}, {write("/f", -1, long), api.EArg},
		// Numbers, ahead of walking and of what the path names.
		{read("/n/n", -1, 0), api.EArg}, {read("/n/n", 0, -1), api.EArg}, {read("/f/n", 0, -1), api.EArg}, {read("/n", -1, 0), api.EArg}, {read("/d", 0, -1), api.EArg}, {read("/", -1, -1), api.EArg},
		{read("/n/n", 0, once+1), api.ETooBig}, {read("/f/n", 0, once+1), api.ETooBig}, {read("/n", 0, once+1), api.ETooBig}, {read("/d", 0, once+1), api.ETooBig}, {read("/", 0, huge), api.ETooBig},
		{write("/n/n", -1, "x"), api.EArg}, {write("/f/n", -1, "x"), api.EArg}, {write("/n", -1, "x"), api.EArg}, {write("/d", -1, "x"), api.EArg},
		{write("/n/n", 0, long), api.ETooBig}, {write("/f/n", most+1, ""), api.ETooBig}, {write("/n", most, "x"), api.ETooBig}, {write("/d", most-1, "xy"), api.ETooBig}, {write("/", huge, ""), api.ETooBig},
		{truncate("/n/n", -1), api.EArg}, {truncate("/f/n", -1), api.EArg}, {truncate("/n", -1), api.EArg}, {truncate("/d", -1), api.EArg},
		{truncate("/n/n", most+1), api.ETooBig}, {truncate("/f/n", most+1), api.ETooBig}, {truncate("/n", most+1), api.ETooBig}, {truncate("/", most+1), api.ETooBig},
		// Numbers that are right.
		{read("/n/n", 0, once), api.ENone}, {read("/f/n", huge, 0), api.ENotDir}, {read("/n", 0, 0), api.ENone}, {read("/d", 0, 0), api.EIsDir}, {read("/", huge, once), api.EIsDir},
		{write("/n/n", most, ""), api.ENone}, {write("/f/n", 0, "x"), api.ENotDir}, {write("/n", 0, "x"), api.ENone}, {write("/d", 0, "x"), api.EIsDir},
		{truncate("/n/n", most), api.ENone}, {truncate("/f/n", 0), api.ENotDir}, {truncate("/n", 0), api.ENone}, {truncate("/d", 0), api.EIsDir}, {truncate("/", 0), api.EIsDir},
		// Walking: the first name that leads nowhere.
		{stat("/n/f/n"), api.ENone}, {stat("/f/n/n"), api.ENotDir}, {stat("/d/n/n/n"), api.ENone}, {stat("/d/f/n/n"), api.ENotDir}, {stat("/n"), api.ENone}, {stat("/f/n"), api.ENotDir},
		{list("/n/n"), api.ENone}, {list("/f/n"), api.ENotDir}, {list("/n"), api.ENone}, {list("/f"), api.ENotDir}, {list("/d/n"), api.ENone},
		// The root, ahead of what is wrong with the other path; To that is no path, ahead of it.
		{link("/", "/n/n"), api.EArg}, {link("/n/n", "/"), api.EArg}, {link("/f/n", "/"), api.EArg}, {link("/d", "/"), api.EArg}, {rename("/n/n", "/"), api.EArg}, {rename("/", "/f/n"), api.EArg}, {rename("/f/n", "/"), api.EArg},
		// Path, ahead of To.
		{link("/n/n", "/f/n"), api.ENone}, {link("/f/n", "/n/n"), api.ENotDir}, {link("/n", "/f/n"), api.ENone}, {link("/n", "/f"), api.ENone}, {link("/d", "/n/n"), api.EIsDir}, {link("/d", "/f/n"), api.EIsDir}, {link("/d", "/f"), api.EIsDir}, {link("/d", "/d"), api.EIsDir}, {link("/d", "/d/n"), api.EIsDir},
		{rename("/n/n", "/f/n"), api.ENone}, {rename("/f/n", "/n/n"), api.ENotDir}, {rename("/n", "/f/n"), api.ENone}, {rename("/n", "/d"), api.ENone},
		// Walking To, ahead of what it names; below itself, ahead of that.
		{rename("/d", "/d/n/n"), api.ENone}, {rename("/d", "/d/f/n"), api.ENotDir}, {rename("/d", "/d/k"), api.EArg}, {rename("/d", "/d/f"), api.EArg}, {rename("/d", "/d/e"), api.EArg},
		// Of a directory with entries, what the row says ahead of them.
		{rename("/f", "/d"), api.EIsDir}, {rename("/d", "/f"), api.ENotDir}, {unlink("/d"), api.EIsDir}, {rmdir("/"), api.EArg},
	} {
		refused(t, m, c.o, c.want)
	}
}

// plainYard is what yard is, by the plain words.
func plainYard() plain {
	l := &thing{data: "\x00\x00\x00abc"}
	return plain{"/": {dir: true}, "/d": {dir: true}, "/d/f": {data: "hello"}, "/d/e": {dir: true}, "/d/k": {dir: true}, "/d/k/x": {}, "/f": l, "/d/l": l, "/o": {}, "/e": {dir: true}}
}

// everyOp is ops of all kinds, with all paths of the yard, paths beside them, and numbers at all edges.
func everyOp(do func(o api.Op)) {
	paths := texts("/", "/d", "/e", "/f", "/o", "/n", "/d/f", "/d/l", "/d/e", "/d/k", "/d/n", "/d/k/x", "/d/k/n", "/d/e/n", "/n/n", "/f/n", "/d/f/n", "/f/n/n", "/e/n", "/d/d", "", "/d/", "d")
	for _, path := range paths {
		for _, kind := range []int{0, 1, 2, 5, 6, 7, 8, 12} {
			do(api.Op{Kind: kind, Path: path})
		}
		for _, to := range paths {
			do(link(path, to))
			do(rename(path, to))
		}
		for _, off := range []int{tiny, -1, 0, 2, most - 1, most, most + 1, huge} {
			for _, n := range []int{-1, 0, 1, once, once + 1} {
				do(read(path, off, n))
				do(write(path, off, many(max(n, 0))))
			}
			do(truncate(path, off))
		}
	}
}

// TestEvery (O1): every such op on the yard, by itself, against the plain words: what is answered, and what is there then.
func TestEvery(t *testing.T) {
	m, p := yard(t), plainYard()
	was := whole(p)
	is(t, "the yard", m, was)
	everyOp(func(o api.Op) {
		c, q := m.Clone(), p.clone()
		want := q.Do(o)
		replies(t, c, o, want)
		if want.Err != api.OK {
			is(t, "refused "+tell(o), c, was)
		} else {
			is(t, "behind "+tell(o), c, whole(q))
		}
	})
	is(t, "the yard, whose clones they were done on", m, was)
}

// TestDoesNotMatter (O1): what a kind does not have is not asked.
func TestDoesNotMatter(t *testing.T) {
	m := yard(t)
	everyOp(func(o api.Op) {
		full := o
		if o.Kind != api.OpLink && o.Kind != api.OpRename {
			full.To = "no path"
		}
		if o.Kind != api.OpRead && o.Kind != api.OpWrite {
			full.Off = tiny
		}
		if o.Kind != api.OpRead && o.Kind != api.OpTruncate {
			full.N = huge
		}
		if o.Kind != api.OpWrite {
			full.Data = many(once + 1)
		}
		a, b := m.Clone(), m.Clone()
		replies(t, a, full, b.Do(o))
		if o.Kind != api.OpRead { // which changes nothing, as TestEvery asks
			is(t, "behind "+tell(full), a, whole(b))
		}
	})
}

// TestRepliesBare (R5): what an op of another kind answers is not told.
func TestRepliesBare(t *testing.T) {
	m := yard(t)
	everyOp(func(o api.Op) {
		r := m.Clone().Do(o)
		if r.Data != "" && (o.Kind != api.OpRead || r.Err != api.OK) {
			t.Errorf("%s: Data %s", tell(o), told(r))
		}
		if len(r.Names) > 0 && (o.Kind != api.OpList || r.Err != api.OK) {
			t.Errorf("%s: Names %s", tell(o), told(r))
		}
		if r.Stat != (api.Stat{}) && (o.Kind != api.OpStat || r.Err != api.OK || r.Stat.Dir && r.Stat != dirStat()) {
			t.Errorf("%s: Stat %s", tell(o), told(r))
		}
	})
}

// TestWrongOnNew (O1): a model with nothing but its root refuses all the same.
func TestWrongOnNew(t *testing.T) {
	p := newPlain()
	everyOp(func(o api.Op) {
		m, q := model.New(), p.clone()
		replies(t, m, o, q.Do(o))
		is(t, "behind "+tell(o), m, whole(q))
	})
}
