package tree_test

import (
	"slices"
	"strings"
	"testing"

	"wainscot/api"
	"wainscot/tree"
)

// onlyGet is blocks of which nothing is asked but Get.
type onlyGet struct {
	*shelf
	t *testing.T
}

func (o onlyGet) Put(x api.Node) (int, api.Errno) {
	o.t.Errorf("Put %v", x)
	return 0, api.ESpace
}

func (o onlyGet) Inc(n int) api.Errno {
	o.t.Errorf("Inc %d", n)
	return api.EArg
}

func (o onlyGet) Dec(n int) (bool, api.Errno) {
	o.t.Errorf("Dec %d", n)
	return false, api.EArg
}

func gets(t *testing.T, b tree.Blocks, root int, k api.Key, want string, has bool) {
	t.Helper()
	if v, ok, e := tree.Get(b, root, k); v != want || ok != has || e != api.OK {
		t.Fatalf("Get %x: %q %v %v; want %q %v", k, v, ok, e, want, has)
	}
}

// scans asks for those of these pairs that are in a span.
func scans(t *testing.T, b tree.Blocks, root int, s api.Span, l []api.Pair) {
	t.Helper()
	var want []api.Pair
	for _, p := range l {
		if compare(p.Key, s.From) >= 0 && (s.End || compare(p.Key, s.To) < 0) {
			want = append(want, p)
		}
	}
	if got, e := tree.Scan(b, root, s); e != api.OK || !slices.Equal(got, want) {
		t.Fatalf("Scan %v: %v %v; want %v", s, got, e, want)
	}
}

// TestGet (G2): each key of trees of all shapes, and keys that they have not.
func TestGet(t *testing.T) {
	for _, key := range []func(int) api.Key{late, middle, early} {
		for _, into := range []func(int, int, int) int{thin, fat} {
			for _, n := range []int{0, 1, 2, 3, 6, 7, 8, 14, 15, 54, 126, 127, 500, 2300} {
				s := newShelf()
				l := pairs(key, n)
				root := grow(t, s, l, into)
				for _, p := range l {
					gets(t, onlyGet{s, t}, root, p.Key, p.Value, true)
				}
				for i := range n + 1 {
					gets(t, onlyGet{s, t}, root, key(2*i), "", false)
				}
				gets(t, onlyGet{s, t}, root, api.Key{}, "", false)
				gets(t, onlyGet{s, t}, root, highest(), "", false)
			}
		}
	}
}

// highest is the greatest key.
func highest() (k api.Key) {
	for i := range k {
		k[i] = 0xff
	}
	return k
}

// TestGetValues (G2): values without a byte, of 40 bytes, and of any bytes.
func TestGetValues(t *testing.T) {
	s := newShelf()
	root := must(t, s, leaf("", forty, "\x00", "\xff\xfe", "a"))
	for i, v := range []string{"", forty, "\x00", "\xff\xfe", "a"} {
		gets(t, s, root, late(i+1), v, true)
	}
}

// TestScan (G2): spans with each beginning and end that differ in what they have, of trees of all shapes.
func TestScan(t *testing.T) {
	for _, key := range []func(int) api.Key{late, middle, early} {
		for _, into := range []func(int, int, int) int{thin, fat} {
			for _, n := range []int{0, 1, 3, 7, 8, 20, 54} {
				s := newShelf()
				l := pairs(key, n)
				root := grow(t, s, l, into)
				for from := range 2*n + 2 {
					scans(t, onlyGet{s, t}, root, api.Span{From: key(from), End: true}, l)
					scans(t, onlyGet{s, t}, root, api.Span{From: key(from), To: key(0), End: true}, l)
					for to := range 2*n + 2 {
						scans(t, onlyGet{s, t}, root, api.Span{From: key(from), To: key(to)}, l)
					}
				}
				scans(t, onlyGet{s, t}, root, all, l)
				scans(t, onlyGet{s, t}, root, api.Span{}, l)
				scans(t, onlyGet{s, t}, root, api.Span{To: highest()}, l)
				scans(t, onlyGet{s, t}, root, api.Span{From: highest(), End: true}, l)
				scans(t, onlyGet{s, t}, root, api.Span{From: highest()}, l)
			}
		}
	}
}

// TestScanWide (G2): spans of trees of more levels.
func TestScanWide(t *testing.T) {
	for _, into := range []func(int, int, int) int{thin, fat} {
		s := newShelf()
		l := pairs(middle, 2400)
		root := grow(t, s, l, into)
		next := numbers(7)
		for range 300 {
			from, to := next(4802), next(4802)
			scans(t, onlyGet{s, t}, root, api.Span{From: middle(from), To: middle(to)}, l)
			scans(t, onlyGet{s, t}, root, api.Span{From: middle(from), End: true}, l)
		}
		scans(t, onlyGet{s, t}, root, all, l)
	}
}

// TestScanIsOwn (R1): what is told may be written over.
func TestScanIsOwn(t *testing.T) {
	s := newShelf()
	l := pairs(late, 5)
	root := grow(t, s, slices.Clone(l), fat)
	got, _ := tree.Scan(s, root, all)
	for i := range got {
		got[i] = api.Pair{Value: "other"}
	}
	scans(t, s, root, all, l)
	is(t, s, root, l)
}

// TestReadErrors (G2): the first error of b is told, with nothing, wherever it comes.
func TestReadErrors(t *testing.T) {
	s := newShelf()
	l := pairs(late, 500)
	root := grow(t, s, l, thin)
	for _, err := range errnos() {
		for at := range 3 {
			f := &faulty{Blocks: s, at: at, err: err}
			if v, ok, e := tree.Get(f, root, l[77].Key); v != "" || ok || e != err {
				t.Errorf("Get: %q %v %v; want %v", v, ok, e, err)
			}
			f = &faulty{Blocks: s, at: at, err: err}
			if v, ok, e := tree.Get(f, root, late(78)); v != "" || ok || e != err {
				t.Errorf("Get: %q %v %v; want %v", v, ok, e, err)
			}
		}
		for at := range len(s.nodes) {
			for _, once := range []bool{false, true} {
				f := &faulty{Blocks: s, at: at, err: err, once: once}
				if got, e := tree.Scan(f, root, all); len(got) != 0 || e != err {
					t.Errorf("Scan: %v %v; want %v", got, e, err)
				}
			}
		}
	}
}

// TestReadNone (G2): a tree whose root there is not.
func TestReadNone(t *testing.T) {
	m := tree.NewMemory(9)
	must(t, m, leaf("a"))
	for _, root := range nowhere() {
		if root == 0 || root == 2 {
			continue
		}
		if v, ok, e := tree.Get(m, root, late(1)); v != "" || ok || e != api.ECorrupt {
			t.Errorf("Get of %d: %q %v %v", root, v, ok, e)
		}
		if l, e := tree.Scan(m, root, all); len(l) != 0 || e != api.ECorrupt {
			t.Errorf("Scan of %d: %v %v", root, l, e)
		}
	}
}

// TestReadEmpty (G2): of the tree 0 there is nothing, and b is not asked.
func TestReadEmpty(t *testing.T) {
	f := &faulty{Blocks: newShelf(), err: api.EIO}
	gets(t, f, 0, late(1), "", false)
	scans(t, f, 0, all, nil)
}

// byteKeys are keys that are alike but for one byte, for each of the 24, and rise.
func byteKeys() []api.Key {
	var l []api.Key
	for at := range 24 {
		for _, b := range []byte{0, 1, 0x54, 0x56, 0x7f, 0x80, 0xfe, 0xff} {
			k := api.Key([]byte(strings.Repeat("\x55", 24)))
			k[at] = b
			l = append(l, k)
		}
	}
	slices.SortFunc(l, compare)
	return l
}

// TestEachByte (G2, G3): keys are ordered by each of their bytes.
func TestEachByte(t *testing.T) {
	keys := byteKeys()
	for odd := range 2 {
		var l []api.Pair
		for i, k := range keys {
			if i%2 == odd {
				l = append(l, api.Pair{Key: k, Value: word(i)})
			}
		}
		for _, into := range []func(int, int, int) int{thin, fat} {
			m := tree.NewMemory(200)
			root := grow(t, m, l, into)
			for i, k := range keys {
				want := ""
				if i%2 == odd {
					want = word(i)
				}
				gets(t, m, root, k, want, want != "")
				scans(t, m, root, api.Span{From: k, End: true}, l)
				scans(t, m, root, api.Span{To: k}, l)
				for _, c := range [][]api.Change{{put(k, "new")}, {gone(k)}, {put(k, "a"), put(keys[(i+1)%len(keys)], "b")}} {
					release(t, m, apply(t, m, 200, root, c, root))
				}
			}
			release(t, m, root)
			apply(t, m, 200, 0, puts(l))
		}
	}
}
