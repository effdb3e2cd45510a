package model_test

import (
	"slices"
	"testing"

	"wainscot/api"
	"wainscot/model"
)

// TestClone (Clone): a clone is as its model, and both go on by themselves, each op on either.
func TestClone(t *testing.T) {
	for _, o := range ops(write("/f", 0, "XYZ"), write("/f", 4, "X"), write("/f", 9, "X"), write("/f", most-1, "X"), write("/o", 0, "X"), truncate("/f", 0), truncate("/f", 4), truncate("/f", 5000),
		create("/n"), create("/d/n"), create("/d/k/n"), create("/e/n"), mkdir("/n"), mkdir("/d/k/n"), unlink("/f"), unlink("/d/l"), unlink("/d/k/x"), unlink("/o"), rmdir("/e"), rmdir("/d/e"),
		link("/f", "/n"), link("/d/k/x", "/n"), rename("/d", "/n"), rename("/f", "/n"), rename("/f", "/o"), rename("/d/k", "/e"), rename("/d/k/x", "/d/f")) {
		for _, own := range []bool{false, true} {
			m := yard(t)
			c := m.Clone()
			was := whole(yard(t))
			is(t, "a clone", c, was)
			if own {
				m, c = c, m
			}
			done(t, m, o)
			is(t, "the other one, behind "+tell(o), c, was)
			want := plainYard()
			want.Do(o)
			is(t, "behind "+tell(o), m, whole(want))
			done(t, c, o)
			is(t, "both, behind "+tell(o), c, whole(m))
		}
	}
}

// TestCloneOfNew (Clone): of a model with a root alone.
func TestCloneOfNew(t *testing.T) {
	m := model.New()
	c := m.Clone()
	is(t, "new", c, whole(m))
	done(t, m, create("/a"))
	lists(t, c, "/")
	done(t, c, mkdir("/a"), create("/b"))
	stats(t, m, "/a", file(1, 0))
	stats(t, c, "/a", dirStat())
	lacks(t, m, "/b")
}

// TestCloneKeepsLinks (Clone): what was one file is one file in the clone, and not the model's.
func TestCloneKeepsLinks(t *testing.T) {
	m := yard(t)
	c := m.Clone()
	done(t, c, write("/f", 0, "clone"))
	reads(t, c, "/d/l", "clonec")
	done(t, m, write("/d/l", 0, "model"))
	reads(t, m, "/f", "modelc")
	reads(t, c, "/f", "clonec")
	done(t, c, unlink("/f"))
	stats(t, c, "/d/l", file(1, 6))
	stats(t, m, "/d/l", file(2, 6))
	done(t, m, link("/f", "/g"), link("/f", "/h"))
	stats(t, m, "/h", file(4, 6))
	stats(t, c, "/d/l", file(1, 6))
	done(t, c, rename("/d/l", "/o"))
	reads(t, c, "/o", "clonec")
	done(t, m, rename("/d/f", "/f"))
	reads(t, m, "/d/l", "modelc")
	done(t, c, write("/d/f", 0, "J"))
	reads(t, m, "/f", "hello")
}

// TestCloneOfClone (Clone): each of many goes on from where it was made.
func TestCloneOfClone(t *testing.T) {
	l := []*model.Model{made(t, create("/file"))}
	for i := range 20 {
		m := l[i].Clone()
		done(t, m, write("/file", i, string(rune('a'+i))), mkdir("/"+string(rune('a'+i))))
		l = append(l, m)
	}
	for i, m := range l {
		reads(t, m, "/file", "abcdefghijklmnopqrstuvwxyz"[:i])
		names := texts("file")
		for j := range i {
			names = append(names, string(rune('a'+j)))
		}
		slices.Sort(names)
		lists(t, m, "/", names...)
	}
}

// TestCloneMakes (Clone): what is made in a clone is not what is made in its model, though it has the same name.
func TestCloneMakes(t *testing.T) {
	m := yard(t)
	c := m.Clone()
	done(t, m, create("/n"), create("/p"), write("/n", 0, "model"))
	done(t, c, create("/p"), create("/n"), write("/n", 0, "clone"), write("/p", 0, "p"))
	reads(t, m, "/n", "model")
	reads(t, m, "/p", "")
	reads(t, c, "/n", "clone")
	done(t, c, mkdir("/q"), rename("/n", "/q/n"))
	done(t, m, create("/q"))
	reads(t, m, "/n", "model")
	stats(t, m, "/q", file(1, 0))
	for _, x := range []*model.Model{m, c} {
		reads(t, x, "/d/f", "hello")
		replies(t, x, create("/d/f"), api.Reply{Err: api.EExist})
	}
}
