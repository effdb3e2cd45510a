package model_test

import (
	"strconv"
	"testing"

	"wainscot/api"
	"wainscot/model"
)

// TestLink (OpLink): one file, one link more, by a name more.
func TestLink(t *testing.T) {
	m := yard(t)
	done(t, m, link("/o", "/p"))
	stats(t, m, "/o", file(2, 0))
	stats(t, m, "/p", file(2, 0))
	lists(t, m, "/", "d", "e", "f", "o", "p")
	done(t, m, link("/d/l", "/e/f"), link("/d/f", "/d/k/f"))
	for _, p := range texts("/f", "/d/l", "/e/f") {
		stats(t, m, p, file(3, 6))
	}
	stats(t, m, "/d/k/f", file(2, 5))
	lists(t, m, "/e", "f")
	lists(t, m, "/d/k", "f", "x")
	done(t, m, unlink("/f"), unlink("/d/l"))
	stats(t, m, "/e/f", file(1, 6))
	reads(t, m, "/e/f", "\x00\x00\x00abc")
}

// TestLinkErrors (OpLink): what is no file, and what has an entry already.
func TestLinkErrors(t *testing.T) {
	m := yard(t)
	for _, c := range []struct {
		path, to string
		want     api.Errno
	}{
		{"/", "/n", api.EArg}, {"/f", "/", api.EArg}, {"/", "/", api.EArg},
		{"/n", "/m", api.ENone}, {"/d/n", "/m", api.ENone}, {"/n/n", "/m", api.ENone}, {"/n", "/n", api.ENone},
		{"/f/n", "/m", api.ENotDir}, {"/d/f/n/n", "/m", api.ENotDir},
		{"/d", "/m", api.EIsDir}, {"/e", "/m", api.EIsDir}, {"/d/e", "/e/m", api.EIsDir}, {"/e", "/e/m", api.EIsDir},
		{"/f", "/n/n", api.ENone}, {"/f", "/d/n/n", api.ENone}, {"/f", "/o/n", api.ENotDir}, {"/f", "/f/n", api.ENotDir}, {"/f", "/d/f/n/n", api.ENotDir},
		{"/f", "/f", api.EExist}, {"/f", "/o", api.EExist}, {"/f", "/d/l", api.EExist}, {"/f", "/d", api.EExist}, {"/f", "/e", api.EExist}, {"/d/f", "/d/k/x", api.EExist},
	} {
		refused(t, m, link(c.path, c.to), c.want)
	}
}

// numbered is a path of its own for each number.
func numbered(i int) string { return "/d/" + strconv.Itoa(i) }

// TestMostLinks (OpLink, OpRename, OpUnlink): a file has up to 65535 links, and is there until the last one is taken away.
func TestMostLinks(t *testing.T) {
	m := made(t, mkdir("/d"), create(numbered(1)), write(numbered(1), 0, "abc"), create("/o"))
	for i := 2; i <= 65535; i++ {
		done(t, m, link(numbered(i-1), numbered(i)))
	}
	stats(t, m, numbered(40000), file(65535, 3))
	for _, c := range []struct {
		to   string
		want api.Errno
	}{{"/n", api.ETooBig}, {"/d/n", api.ETooBig}, {"/o", api.EExist}, {numbered(1), api.EExist}, {"/", api.EArg}, {"/n/n", api.ENone}, {"/o/n", api.ENotDir}} {
		replies(t, m, link(numbered(7), c.to), api.Reply{Err: c.want})
	}
	lacks(t, m, "/n", "/d/n")
	stats(t, m, numbered(7), file(65535, 3))
	done(t, m, link("/o", "/p"), rename(numbered(7), "/n"), rename("/n", numbered(8))) // the last one does nothing
	stats(t, m, numbered(8), file(65535, 3))
	done(t, m, rename("/n", numbered(7)), unlink(numbered(7)))
	stats(t, m, numbered(8), file(65534, 3))
	done(t, m, link(numbered(8), numbered(7)))
	replies(t, m, link(numbered(8), "/n"), api.Reply{Err: api.ETooBig})
	done(t, m, rename("/o", numbered(10)), link(numbered(9), "/n"))
	stats(t, m, "/n", file(65535, 3))
	for i := 1; i <= 65535; i++ {
		done(t, m, unlink(numbered(i)))
	}
	reads(t, m, "/n", "abc")
	stats(t, m, "/n", file(1, 3))
	stats(t, m, "/p", file(1, 0))
	done(t, m, unlink("/n"))
	lists(t, m, "/d")
	lists(t, m, "/", "d", "p")
}

// TestMostLinksOfClone (OpLink, Clone): a clone counts links of its own.
func TestMostLinksOfClone(t *testing.T) {
	m := made(t, mkdir("/d"), create(numbered(1)))
	for i := 2; i <= 65534; i++ {
		done(t, m, link(numbered(1), numbered(i)))
	}
	c := m.Clone()
	for _, x := range []*model.Model{c, m} {
		done(t, x, link(numbered(1), "/n"))
		replies(t, x, link(numbered(1), "/m"), api.Reply{Err: api.ETooBig})
		stats(t, x, "/n", file(65535, 0))
	}
	done(t, c, unlink("/n"))
	replies(t, m, link(numbered(1), "/m"), api.Reply{Err: api.ETooBig})
	done(t, c, link(numbered(1), "/m"))
}
