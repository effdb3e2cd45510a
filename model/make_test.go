package model_test

import (
	"strings"
	"testing"

	"wainscot/api"
	"wainscot/model"
)

// longPath is the longest path: ten of the longest names, and one of nine bytes.
var longPath = strings.Repeat("/eighteen bytes, ok", 10) + "/xxxxxxxxx"

// TestCreate (OpCreate): a file without bytes, with one link; it alone is made.
func TestCreate(t *testing.T) {
	for _, path := range texts("/n", "/e/n", "/d/n", "/d/k/f", "/ ", "/...", "/é", "/\ufffd", "/d/eighteen bytes, ok", "/dd", "/D") {
		m, n := yard(t), yard(t)
		done(t, m, create(path))
		stats(t, m, path, file(1, 0))
		replies(t, m, read(path, 0, once), api.Reply{})
		refused(t, m, create(path), api.EExist)
		refused(t, m, mkdir(path), api.EExist)
		refused(t, m, list(path), api.ENotDir)
		done(t, m, unlink(path))
		is(t, "unlinked again", m, whole(n))
	}
}

// TestMkdir (OpMkdir): a directory without entries; it alone is made.
func TestMkdir(t *testing.T) {
	for _, path := range texts("/n", "/e/n", "/d/n", "/d/k/f", "/ ", "/...", "/é", "/\ufffd", "/d/eighteen bytes, ok", "/dd", "/D") {
		m, n := yard(t), yard(t)
		done(t, m, mkdir(path))
		stats(t, m, path, dirStat())
		lists(t, m, path)
		refused(t, m, create(path), api.EExist)
		refused(t, m, mkdir(path), api.EExist)
		refused(t, m, read(path, 0, 1), api.EIsDir)
		done(t, m, rmdir(path))
		is(t, "gone again", m, whole(n))
	}
}

// TestMakeErrors (OpCreate, OpMkdir): what is there, and what leads nowhere.
func TestMakeErrors(t *testing.T) {
	m := yard(t)
	for _, c := range []struct {
		path string
		want api.Errno
	}{
		{"/", api.EExist}, {"/d", api.EExist}, {"/e", api.EExist}, {"/f", api.EExist}, {"/o", api.EExist}, {"/d/f", api.EExist}, {"/d/l", api.EExist}, {"/d/k/x", api.EExist},
		{"/n/n", api.ENone}, {"/n/n/n", api.ENone}, {"/d/n/n", api.ENone}, {"/d/k/n/f", api.ENone},
		{"/f/n", api.ENotDir}, {"/f/n/n", api.ENotDir}, {"/d/f/n", api.ENotDir}, {"/d/k/x/n/n", api.ENotDir}, {"/f/f", api.ENotDir},
	} {
		refused(t, m, create(c.path), c.want)
		refused(t, m, mkdir(c.path), c.want)
	}
}

// TestMakeApart (OpCreate, OpMkdir): what is made anew is not what had the name before.
func TestMakeApart(t *testing.T) {
	m := made(t, create("/a"), write("/a", 0, "old"), link("/a", "/b"), unlink("/a"), create("/a"))
	reads(t, m, "/a", "")
	reads(t, m, "/b", "old")
	done(t, m, write("/a", 1, "x"), mkdir("/d"), rmdir("/d"), mkdir("/d"), create("/d/a"))
	stats(t, m, "/d/a", file(1, 0))
	stats(t, m, "/a", file(1, 2))
	stats(t, m, "/b", file(1, 3))
	done(t, m, unlink("/a"), mkdir("/a"), rename("/d", "/e"), mkdir("/d"))
	lists(t, m, "/a")
	lists(t, m, "/d")
	lists(t, m, "/e", "a")
}

// TestLongest (O1): paths as long as they may be, and as deep.
func TestLongest(t *testing.T) {
	for _, path := range texts(longPath, strings.Repeat("/a", 100)) {
		m := model.New()
		for i := range path {
			if i > 0 && path[i] == '/' {
				refused(t, m, create(path), api.ENone)
				done(t, m, mkdir(path[:i]))
			}
		}
		done(t, m, create(path), write(path, 0, "deep"))
		reads(t, m, path, "deep")
		refused(t, m, create(path+"b"), api.EArg)
		refused(t, m, stat(path+"/b"), api.EArg)
		done(t, m, rename(path, "/b"), unlink("/b"))
		lacks(t, m, path)
	}
}

// TestUnlink (OpUnlink): the entry is gone; the file is there as long as it has a link.
func TestUnlink(t *testing.T) {
	m := yard(t)
	done(t, m, unlink("/f"))
	lacks(t, m, "/f")
	stats(t, m, "/d/l", file(1, 6))
	reads(t, m, "/d/l", "\x00\x00\x00abc")
	lists(t, m, "/", "d", "e", "o")
	refused(t, m, unlink("/f"), api.ENone)
	done(t, m, unlink("/d/l"))
	lacks(t, m, "/f", "/d/l")
	lists(t, m, "/d", "e", "f", "k")
	refused(t, m, unlink("/d/l"), api.ENone)
	reads(t, m, "/d/f", "hello")
}

// TestUnlinkErrors (OpUnlink): directories stay, the root too, with entries and without.
func TestUnlinkErrors(t *testing.T) {
	m := yard(t)
	for _, c := range []struct {
		path string
		want api.Errno
	}{
		{"/", api.EIsDir}, {"/d", api.EIsDir}, {"/e", api.EIsDir}, {"/d/e", api.EIsDir}, {"/d/k", api.EIsDir},
		{"/n", api.ENone}, {"/d/n", api.ENone}, {"/n/n", api.ENone}, {"/d/n/n", api.ENone}, {"/f/n", api.ENotDir}, {"/d/k/x/n", api.ENotDir}, {"/f/n/n", api.ENotDir},
	} {
		refused(t, m, unlink(c.path), c.want)
	}
	refused(t, model.New(), unlink("/"), api.EIsDir)
}

// TestRmdir (OpRmdir): a directory without entries is gone, and it alone.
func TestRmdir(t *testing.T) {
	m := yard(t)
	done(t, m, rmdir("/e"))
	lacks(t, m, "/e")
	lists(t, m, "/", "d", "f", "o")
	stats(t, m, "/d/e", dirStat())
	refused(t, m, rmdir("/e"), api.ENone)
	refused(t, m, create("/e/n"), api.ENone)
	refused(t, m, rmdir("/d/k"), api.ENotEmpty)
	done(t, m, unlink("/d/k/x"), rmdir("/d/k"), rmdir("/d/e"))
	lists(t, m, "/d", "f", "l")
	refused(t, m, rmdir("/d"), api.ENotEmpty)
	done(t, m, unlink("/d/f"))
	refused(t, m, rmdir("/d"), api.ENotEmpty)
	done(t, m, rename("/d/l", "/l"), rmdir("/d"))
	lists(t, m, "/", "f", "l", "o")
	stats(t, m, "/l", file(2, 6))
}

// TestRmdirErrors (OpRmdir): the root, files, and directories with entries, stay.
func TestRmdirErrors(t *testing.T) {
	m := yard(t)
	for _, c := range []struct {
		path string
		want api.Errno
	}{
		{"/", api.EArg}, {"/d", api.ENotEmpty}, {"/d/k", api.ENotEmpty}, {"/f", api.ENotDir}, {"/o", api.ENotDir}, {"/d/l", api.ENotDir}, {"/d/k/x", api.ENotDir},
		{"/n", api.ENone}, {"/d/n", api.ENone}, {"/n/n", api.ENone}, {"/d/n/n", api.ENone}, {"/f/n", api.ENotDir}, {"/d/k/x/n", api.ENotDir}, {"/f/n/n", api.ENotDir},
	} {
		refused(t, m, rmdir(c.path), c.want)
	}
	refused(t, model.New(), rmdir("/"), api.EArg)
	n := made(t, mkdir("/d"), mkdir("/d/e"))
	refused(t, n, rmdir("/d"), api.ENotEmpty)
	done(t, n, rmdir("/d/e"), rmdir("/d"))
	is(t, "all gone", n, whole(model.New()))
}
