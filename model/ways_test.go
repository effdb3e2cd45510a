package model_test

import (
	"testing"

	"wainscot/api"
	"wainscot/model"
)

// both is a model, and the plain words beside it.
type both struct {
	m *model.Model
	p plain
}

func bothOf(l ...api.Op) both {
	b := both{model.New(), newPlain()}
	for _, o := range l {
		b.m.Do(o)
		b.p.Do(o)
	}
	return b
}

func (b both) clone() both { return both{b.m.Clone(), b.p.clone()} }

func (b both) do(t *testing.T, o api.Op) {
	t.Helper()
	replies(t, b.m, o, b.p.Do(o))
}

func (b both) same(t *testing.T, what string) {
	t.Helper()
	is(t, what, b.m, whole(b.p))
}

// shortSteps is ops that come across each other.
func shortSteps() []api.Op {
	return ops(mkdir("/a"), mkdir("/b"), create("/a"), create("/a/b"), link("/a/b", "/c"), link("/a", "/c"), rename("/a", "/b"), rename("/b", "/a/b"),
		rename("/a/b", "/b"), rename("/c", "/a"), unlink("/c"), unlink("/a/b"), rmdir("/a"), rmdir("/b"), write("/c", 1, "x"), write("/a/b", 0, "yz"), truncate("/a", 2), truncate("/b", 1))
}

// TestShortWays (O1): all ways of four such ops, against the plain words.
func TestShortWays(t *testing.T) {
	l := shortSteps()
	var on func(b both, way []int)
	on = func(b both, way []int) {
		if len(way) == 4 {
			b.same(t, "in the end")
			return
		}
		for i, o := range l {
			c := b.clone()
			c.do(t, o)
			next := append(way[:len(way):len(way)], i)
			if t.Failed() {
				t.Fatalf("way %v", next)
			}
			on(c, next)
		}
	}
	on(bothOf(), nil)
}

// dice is numbers that look thrown, the same ones each time.
type dice uint32

func (d *dice) below(n int) int {
	*d = *d*1664525 + 1013904223
	return int(uint32(*d)>>8) % n
}

func one[T any](d *dice, l ...T) T { return l[d.below(len(l))] }

// path is one of few names, or none, one behind the other.
func (d *dice) path() string {
	if d.below(40) == 0 {
		return one(d, "/", "", "/a/", "a", "/..", "//a")
	}
	path := ""
	for range 1 + d.below(3) {
		path += one(d, "/a", "/b", "/c", "/ab")
	}
	return path
}

// number is small, or about the edges.
func (d *dice) number() int {
	switch d.below(30) {
	case 0:
		return one(d, -1, tiny, huge, most+1, most+once)
	case 1:
		return one(d, most, most-1, most-once, most-2*once)
	case 2, 3, 4:
		return one(d, once-1, once, once+1, 2*once-1, 2*once)
	}
	return d.below(12)
}

// data is a few bytes, noughts among them, or a great many.
func (d *dice) data() string {
	switch d.below(12) {
	case 0:
		return many(one(d, once-1, once, once+1, 1000))
	case 1:
		return ""
	}
	return one(d, "a", "bc", "\x00", "d\x00", "\x00e", "hello", noughts(20))
}

func (d *dice) op() api.Op {
	kind := one(d, 1, 2, 3, 3, 4, 4, 4, 5, 5, 5, 6, 6, 6, 7, 8, 9, 9, 9, 9, 10, 10, 10, 11, 11)
	return api.Op{Kind: kind, Path: d.path(), To: d.path(), Off: d.number(), N: d.number(), Data: d.data()}
}

// TestLongWays (O1, Clone, R4): by many ops that look thrown, on a model and its clones, which go on apart, against the plain words; twice, with the same answers.
func TestLongWays(t *testing.T) {
	for turn := range 2 * 150 {
		d := dice(turn % 150)
		l := []both{bothOf()}
		for range 300 {
			at := d.below(len(l))
			l[at].do(t, d.op())
			if d.below(30) == 0 && len(l) < 5 {
				l = append(l, l[at].clone())
			}
			if d.below(30) == 0 {
				l[at].same(t, "on the way")
			}
		}
		for _, b := range l {
			b.same(t, "in the end")
		}
		if t.Failed() {
			t.Fatalf("by the dice %d", turn%150)
		}
	}
}
