package fsops_test

import (
	"fmt"
	"slices"
	"strings"
	"testing"
	"unsafe"

	"wainscot/api"
	"wainscot/fsops"
	"wainscot/model"
	"wainscot/span"
	"wainscot/view"
)

// share tells whether two texts have a byte in one place.
func share(a, b string) bool {
	if a == "" || b == "" {
		return false
	}
	from, other := uintptr(unsafe.Pointer(unsafe.StringData(a))), uintptr(unsafe.Pointer(unsafe.StringData(b)))
	return from < other+uintptr(len(b)) && other < from+uintptr(len(a))
}

// TestNothingIsShared (R1): what is handed in stays as it was, and is not kept; an answer that is written over changes nothing within.
func TestNothingIsShared(t *testing.T) {
	s := fresh(t)
	one, other := strings.Clone("/first"), strings.Clone("/second")
	data := strings.Clone(many(100) + noughts(28) + "end")
	s.done(t, create(one), write(one, 7, data), rename(one, other), mkdir("/dir"), link(other, "/dir/third"))
	if one != "/first" || other != "/second" || data != many(100)+noughts(28)+"end" {
		t.Errorf("%q, %q, %q", one, other, data)
	}
	for _, c := range s.v.Changes() {
		if share(c.Value, data) {
			t.Errorf("%s is a part of what was handed in", short(c))
		}
	}
	a, b := s.Do(list("/")), s.Do(list("/"))
	for _, n := range a.Names {
		if share(n, one) || share(n, other) || slices.ContainsFunc(b.Names, func(m string) bool { return share(m, n) }) {
			t.Errorf("%q is a part of something else", n)
		}
	}
	if got := s.Do(read("/second", 7, 200)).Data; got != data || share(got, data) {
		t.Errorf("%q", got)
	}
	for i := range a.Names {
		a.Names[i] = "over"
	}
	is(t, "another answer", b.Names, texts("dir", "second"))
	s.replies(t, list("/"), api.Reply{Names: texts("dir", "second")})
}

// TestBaseStays (R1, R3): what the view's base has stays as it was, and views have nothing to do with each other.
func TestBaseStays(t *testing.T) {
	b := view.NewPlain(yard())
	v, w := view.New(b), view.New(b)
	for i, o := range yardOps() {
		fsops.Do(v, 20+i, o)
	}
	holds(t, "one view", v)
	got, _ := b.Scan(api.Span{End: true})
	is(t, "the base", got, yard())
	touched(t, "another view", w, nil, nil)
	for _, o := range yardOps() {
		want, made := fsops.Do(see(yard()), 20, o)
		does(t, view.New(w), 20, o, want, made)
	}
	is(t, "another view", w.Changes(), nil)
}

// TestViewOfView (Q1): a view may be another one's base.
func TestViewOfView(t *testing.T) {
	below := fresh(t)
	below.done(t, mkdir("/d"), create("/d/a"), write("/d/a", 3, "abc"))
	above := &system{view.New(below.v), below.next}
	above.done(t, rename("/d/a", "/b"), rmdir("/d"))
	above.replies(t, list("/"), api.Reply{Names: texts("b")})
	above.replies(t, read("/b", 2, 9), api.Reply{Data: "\x00abc"})
	holds(t, "above", above.v)
	below.replies(t, list("/"), api.Reply{Names: texts("d")})
	holds(t, "below", below.v)
}

// TestNoView (R2): of a view that is none no call panics.
func TestNoView(t *testing.T) {
	for _, v := range []*view.View{nil, {}} {
		err(t, "Fresh", fsops.Fresh(v), api.EArg)
		err(t, "Check", fsops.Check(v), api.EArg)
		for _, o := range yardOps() {
			does(t, v, 20, o, wrong(api.EArg), false)
		}
		does(t, v, 20, create("/"), wrong(api.EExist), false)
		does(t, v, 20, unlink("/"), wrong(api.EIsDir), false)
		does(t, v, 20, read("/", 0, once+1), wrong(api.ETooBig), false)
	}
}

// wild is a base that does not keep to keys and spans.
type wild struct {
	value string
	pairs []api.Pair
}

func (w *wild) Get(k api.Key) (string, bool, api.Errno) { return w.value, true, api.OK }
func (w *wild) Scan(s api.Span) ([]api.Pair, api.Errno) { return slices.Clone(w.pairs), api.OK }

// TestWildBase (R2): whatever a base answers, no call panics, and each ends; one that fails changes nothing.
func TestWildBase(t *testing.T) {
	turned := yard()
	slices.Reverse(turned)
	for _, value := range texts("", "x", dirValue, fileValue(1, 0), fileValue(2, most), fileValue(most64K, 5), word(1), word(2), many(1000)) {
		for _, l := range [][]api.Pair{nil, turned, slices.Concat(yard(), turned), pairs(api.Pair{}, api.Pair{Key: greatest(), Value: many(99)})} {
			for _, o := range slices.Concat(yardOps(), ops(stat("/"+many(18)), read("/", 0, once))) {
				v := view.New(&wild{value, l})
				r, _ := fsops.Do(v, 20, o)
				if r.Err != api.OK {
					is(t, "Changes", v.Changes(), nil)
				}
				fsops.Check(v)
			}
		}
	}
	err(t, "Check of pairs in no order", fsops.Check(view.New(&wild{"", turned})), api.OK)
	err(t, "Check of pairs that come twice", fsops.Check(view.New(&wild{"", slices.Concat(yard(), turned)})), api.OK)
}

// TestWrongPaths (Q1): texts that are no paths, in the place of Path and of To.
func TestWrongPaths(t *testing.T) {
	for _, s := range texts("", "f", "f/", "/f/", "//", "//f", "/f//x", "/.", "/..", "/d/..", "/d/./f", "/\x00", "/f\x1f", "/\x7f", "/\xff", "/\xc0\xaf", "/"+many(19), strings.Repeat("/ab", 67), many(1000)) {
		for kind := 1; kind <= 11; kind++ {
			row{api.Op{Kind: kind, Path: s, To: "/n"}, wrong(api.EArg), nil, nil}.ask(t)
			two := kind == api.OpRename || kind == api.OpLink
			if two {
				row{api.Op{Kind: kind, Path: "/f", To: s}, wrong(api.EArg), nil, nil}.ask(t)
				row{api.Op{Kind: kind, Path: "/none", To: s}, wrong(api.EArg), nil, nil}.ask(t)
				row{api.Op{Kind: kind, Path: "/", To: s}, wrong(api.EArg), nil, nil}.ask(t)
				continue
			}
			v, w := see(yard()), see(yard())
			want, made := fsops.Do(w, 20, api.Op{Kind: kind, Path: "/f"})
			does(t, v, 20, api.Op{Kind: kind, Path: "/f", To: s}, want, made)
		}
	}
}

// TestMostLinks (Q1, Q2): a file has at most 65535 links.
func TestMostLinks(t *testing.T) {
	l := pairs(dirPair(1), filePair(2, most64K, 3), chunkPair(2, 0, "abc"), entryPair(1, "e", 3), dirPair(3))
	for i := range most64K {
		l = append(l, entryPair(1, fmt.Sprint("l", i), 2))
	}
	v := see(l)
	holds(t, "all links", v)
	refused(t, v, 9, link("/l7", "/n"), api.ETooBig)
	refused(t, v, 9, link("/l7", "/e/n"), api.ETooBig)
	refused(t, v, 9, link("/l7", "/e"), api.EExist)
	refused(t, v, 9, link("/l7", "/none/n"), api.ENone)
	does(t, v, 9, rename("/l7", "/e/n"), api.Reply{}, false)
	does(t, v, 9, unlink("/l8"), api.Reply{}, false)
	does(t, v, 9, stat("/e/n"), api.Reply{Stat: api.Stat{Links: most64K - 1, Size: 3}}, false)
	does(t, v, 9, link("/e/n", "/e/m"), api.Reply{}, false)
	refused(t, v, 9, link("/e/n", "/e/o"), api.ETooBig)
	does(t, v, 9, stat("/e/m"), api.Reply{Stat: api.Stat{Links: most64K, Size: 3}}, false)
	holds(t, "all links again", v)
}

// TestGreatFile (Q1): files as long as they may be, against the model.
func TestGreatFile(t *testing.T) {
	s, m := fresh(t), model.New()
	for _, o := range ops(create("/a"), truncate("/a", most), write("/a", most-once, many(once)), read("/a", most-once-3, once), read("/a", most-1, once), read("/a", most, once), write("/a", 5, "hello"),
		link("/a", "/b"), truncate("/b", most-3), write("/a", most, ""), write("/a", most, "x"), stat("/a"), read("/a", most-once, once), truncate("/a", most), read("/a", most-once, once),
		truncate("/a", 7), truncate("/a", most), read("/a", 0, once), create("/c"), rename("/c", "/a"), stat("/b"), rename("/a", "/b"), stat("/b"), read("/b", 0, once), list("/")) {
		s.replies(t, o, m.Do(o))
		holds(t, tell(o), s.v)
	}
	is(t, "what is left", all(t, s.v), with(pairs(dirPair(1), entryPair(1, "b", 3), filePair(3, 1, 0))))
}

// TestDeep (Q1): directories as deep as a path may lead, against the model.
func TestDeep(t *testing.T) {
	s, m := fresh(t), model.New()
	deep := strings.Repeat("/d", 100)
	for i := range 100 {
		o := mkdir(deep[:2*i+2])
		s.replies(t, o, m.Do(o))
	}
	for _, o := range ops(stat(deep), mkdir(deep+"/d"), rename("/d", deep), rename(deep, "/d"), rename(deep[:198], "/x"), create("/x/d/y"), rename("/x", deep[:198]), stat(deep[:196]+"/x/d/y"), rename("/d/d", "/e"), list("/"), rmdir("/d"), list("/e"), list(deep[2:])) {
		s.replies(t, o, m.Do(o))
		holds(t, tell(o), s.v)
	}
	if got, want := whole(s), whole(m); got != want {
		t.Errorf("there is %s; want %s", got, want)
	}
}

// TestApart (Q1): who makes, links, renames or removes other names, even in one directory, does not read what others change.
func TestApart(t *testing.T) {
	l := ops(create("/n1"), mkdir("/n2"), create("/d/n3"), link("/o", "/n4"), rename("/w", "/d/n5"), unlink("/d/f"), rmdir("/e"), rename("/d/e", "/n6"), write("/f", 5, "xyz"), rename("/d/k", "/n7"))
	for i, a := range l {
		for j, b := range l {
			v, w := see(yard()), see(yard())
			does(t, v, 20, a, api.Reply{}, a.Kind == api.OpCreate || a.Kind == api.OpMkdir)
			does(t, w, 21, b, api.Reply{}, b.Kind == api.OpCreate || b.Kind == api.OpMkdir)
			if i != j && span.Any(v.Reads(), keysOf(w.Changes())) {
				t.Errorf("%s reads what %s changes", tell(a), tell(b))
			}
		}
	}
}
