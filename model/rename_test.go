package model_test

import (
	"strings"
	"testing"

	"wainscot/api"
	"wainscot/model"
)

// TestRenameFile (OpRename): the entry of Path is gone, To's is the file's; its links and bytes are as they were.
func TestRenameFile(t *testing.T) {
	for _, to := range texts("/n", "/e/n", "/d/n", "/d/k/f", "/e/f", "/F") {
		m := yard(t)
		done(t, m, rename("/f", to))
		lacks(t, m, "/f")
		stats(t, m, to, file(2, 6))
		reads(t, m, to, "\x00\x00\x00abc")
		stats(t, m, "/d/l", file(2, 6))
		refused(t, m, rename("/f", to), api.ENone)
		done(t, m, rename(to, "/f"))
		is(t, "back again", m, whole(yard(t)))
	}
}

// TestRenameDir (OpRename): a directory takes all that is below it along.
func TestRenameDir(t *testing.T) {
	for _, to := range texts("/n", "/e/n", "/e/d", "/dd", "/ ") {
		m := yard(t)
		done(t, m, rename("/d", to))
		lacks(t, m, "/d")
		refused(t, m, stat("/d/f"), api.ENone)
		stats(t, m, to, dirStat())
		lists(t, m, to, "e", "f", "k", "l")
		lists(t, m, to+"/k", "x")
		reads(t, m, to+"/f", "hello")
		stats(t, m, to+"/l", file(2, 6))
		done(t, m, write(to+"/l", 0, "x"), unlink("/f"))
		stats(t, m, to+"/l", file(1, 6))
		done(t, m, link(to+"/l", "/f"), write("/f", 0, "\x00"), rename(to, "/d"))
		is(t, "back again", m, whole(yard(t)))
	}
}

// TestRenameSame (OpRename): onto the same inode nothing is done, be it by the same path or by another link.
func TestRenameSame(t *testing.T) {
	m := yard(t)
	was := whole(m)
	for _, c := range []api.Op{rename("/f", "/f"), rename("/d", "/d"), rename("/e", "/e"), rename("/d/k", "/d/k"), rename("/o", "/o"), rename("/f", "/d/l"), rename("/d/l", "/f"), rename("/d/k/x", "/d/k/x")} {
		done(t, m, c)
		is(t, "behind "+tell(c), m, was)
	}
	done(t, m, link("/f", "/g"), rename("/f", "/g"), rename("/d/l", "/g"))
	for _, p := range texts("/f", "/g", "/d/l") {
		stats(t, m, p, file(3, 6))
	}
}

// TestRenameOntoFile (OpRename): the file that had the name has a link less, and is gone with the last one.
func TestRenameOntoFile(t *testing.T) {
	m := yard(t)
	done(t, m, rename("/o", "/f"))
	lists(t, m, "/", "d", "e", "f")
	stats(t, m, "/f", file(1, 0))
	stats(t, m, "/d/l", file(1, 6))
	done(t, m, rename("/d/f", "/d/l"))
	reads(t, m, "/d/l", "hello")
	stats(t, m, "/d/l", file(1, 5))
	lists(t, m, "/d", "e", "k", "l")
	done(t, m, rename("/d/l", "/d/k/x"), write("/f", 0, "x"), rename("/f", "/d/k/x"))
	lists(t, m, "/d", "e", "k")
	lists(t, m, "/", "d", "e")
	lists(t, m, "/d/k", "x")
	reads(t, m, "/d/k/x", "x")
	stats(t, m, "/d/k/x", file(1, 1))
}

// TestRenameOntoDir (OpRename): a directory takes the place of one without entries.
func TestRenameOntoDir(t *testing.T) {
	m := yard(t)
	done(t, m, rename("/d", "/e"))
	lists(t, m, "/", "e", "f", "o")
	lists(t, m, "/e", "e", "f", "k", "l")
	done(t, m, rename("/e/k", "/e/e"))
	lists(t, m, "/e", "e", "f", "l")
	lists(t, m, "/e/e", "x")
	done(t, m, mkdir("/n"), rename("/n", "/n"), mkdir("/q"), rename("/n", "/q"))
	lacks(t, m, "/n")
	lists(t, m, "/q")
	done(t, m, create("/q/y"), unlink("/q/y"), rmdir("/q"))
	lists(t, m, "/", "e", "f", "o")
}

// TestRenameOntoAbove (OpRename): onto a directory that it is below, which has an entry then.
func TestRenameOntoAbove(t *testing.T) {
	m := made(t, mkdir("/a"), mkdir("/a/b"), mkdir("/a/b/c"), create("/a/b/f"))
	refused(t, m, rename("/a/b", "/a"), api.ENotEmpty)
	refused(t, m, rename("/a/b/c", "/a"), api.ENotEmpty)
	refused(t, m, rename("/a/b/c", "/a/b"), api.ENotEmpty)
	refused(t, m, rename("/a/b/f", "/a/b"), api.EIsDir)
	refused(t, m, rename("/a/b/f", "/a"), api.EIsDir)
	done(t, m, rename("/a/b/c", "/a/c"), rename("/a/c", "/c"), rename("/a/b", "/c"))
	lists(t, m, "/c", "f")
	lists(t, m, "/a")
}

// TestRenameBelow (OpRename): no directory is below itself; a name that begins alike is not below.
func TestRenameBelow(t *testing.T) {
	m := made(t, mkdir("/d"), mkdir("/d/e"), mkdir("/d/e/f"), create("/d/x"), mkdir("/dd"), create("/f"))
	for _, c := range []struct {
		path, to string
		want     api.Errno
	}{
		{"/d", "/d/n", api.EArg}, {"/d", "/d/d", api.EArg}, {"/d", "/d/e", api.EArg}, {"/d", "/d/x", api.EArg}, {"/d", "/d/e/n", api.EArg}, {"/d", "/d/e/f", api.EArg}, {"/d", "/d/e/f/n", api.EArg},
		{"/d/e", "/d/e/n", api.EArg}, {"/d/e", "/d/e/f", api.EArg}, {"/dd", "/dd/n", api.EArg},
		{"/d", "/d/n/n", api.ENone}, {"/d", "/d/x/n", api.ENotDir}, // walking comes first
		{"/f", "/f/n", api.ENotDir}, {"/f", "/f/n/n", api.ENotDir}, {"/n", "/n/n", api.ENone},
	} {
		refused(t, m, rename(c.path, c.to), c.want)
	}
	done(t, m, rename("/d", "/dd/d"), rename("/dd/d/e", "/dd/e"), rename("/dd/e", "/ddd"), rename("/ddd", "/dd/ddd"))
	lists(t, m, "/dd", "d", "ddd")
	lists(t, m, "/dd/ddd", "f")
}

// TestRenameErrors (OpRename): all the others.
func TestRenameErrors(t *testing.T) {
	m := yard(t)
	for _, c := range []struct {
		path, to string
		want     api.Errno
	}{
		{"/", "/n", api.EArg}, {"/f", "/", api.EArg}, {"/d", "/", api.EArg}, {"/", "/", api.EArg}, {"/n", "/", api.EArg}, {"/", "/e", api.EArg},
		{"/n", "/m", api.ENone}, {"/d/n", "/m", api.ENone}, {"/n/n", "/m", api.ENone}, {"/n", "/n", api.ENone}, {"/n", "/f", api.ENone},
		{"/f/n", "/m", api.ENotDir}, {"/d/k/x/n/n", "/m", api.ENotDir},
		{"/f", "/n/n", api.ENone}, {"/d", "/n/n", api.ENone}, {"/f", "/o/n", api.ENotDir}, {"/d", "/o/n", api.ENotDir}, {"/d/k", "/d/f/n", api.ENotDir},
		{"/f", "/d", api.EIsDir}, {"/f", "/e", api.EIsDir}, {"/d/f", "/d/k", api.EIsDir}, {"/d/f", "/d", api.EIsDir}, {"/d/k/x", "/d/e", api.EIsDir},
		{"/d", "/f", api.ENotDir}, {"/e", "/o", api.ENotDir}, {"/d/k", "/d/f", api.ENotDir}, {"/e", "/d/k/x", api.ENotDir},
		{"/e", "/d", api.ENotEmpty}, {"/d/e", "/d/k", api.ENotEmpty}, {"/d/k", "/d", api.ENotEmpty}, {"/d/k", "/d/k/x/n", api.ENotDir},
	} {
		refused(t, m, rename(c.path, c.to), c.want)
	}
}

// chain is a path of n directories below /a or the like, all named b.
func chain(top string, n int) string { return top + strings.Repeat("/b", n) }

// dig brings what stands deep in /a up again, round by round, and takes away what was above it.
func dig(t *testing.T, m *model.Model, rounds int) {
	t.Helper()
	for range rounds {
		done(t, m, rename(chain("/a", 98)+"/a", "/c"))
		for n := 98; n >= 0; n-- {
			done(t, m, rmdir(chain("/a", n)))
		}
		done(t, m, rename("/c", "/a"))
	}
	reads(t, m, "/a/f", "deep")
	lists(t, m, "/", "a")
}

// TestRenameDeep (OpRename, Clone): directories may stand far deeper than a path leads; they are there, of a clone too.
func TestRenameDeep(t *testing.T) {
	const rounds = 200
	m := made(t, mkdir("/a"), create("/a/f"), write("/a/f", 0, "deep"))
	for range rounds {
		for n := range 99 {
			done(t, m, mkdir(chain("/b", n)))
		}
		done(t, m, rename("/a", chain("/b", 98)+"/a"), rename("/b", "/a"))
	}
	c := m.Clone()
	dig(t, m, rounds)
	dig(t, c, rounds)
}
