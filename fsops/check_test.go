package fsops_test

import (
	"fmt"
	"slices"
	"strings"
	"testing"

	"wainscot/api"
	"wainscot/fsops"
	"wainscot/view"
)

// checks asks Check for just this, of a map, whether its pairs stand in a base, or are changes of a view.
func checks(t *testing.T, what string, l []api.Pair, want api.Errno) {
	t.Helper()
	v := see(l)
	err(t, what+": Check", fsops.Check(v), want)
	is(t, what+": Changes", v.Changes(), nil)
	v = view.New(nil)
	for _, x := range l {
		if x.Value != "" && len(x.Value) <= 40 {
			err(t, what+": Put", v.Put(x.Key, x.Value), api.OK)
		}
	}
	if len(v.Changes()) == len(l) {
		err(t, what+": Check of changes", fsops.Check(v), want)
	}
}

// TestCheckHolds (Q2): maps that hold a file system, at the edges.
func TestCheckHolds(t *testing.T) {
	long := entryPair(1, many(18), 2)
	for _, c := range []struct {
		what string
		l    []api.Pair
	}{
		{"a fresh one", pairs(dirPair(1))},
		{"the yard", yard()},
		{"the greatest number, a file", pairs(dirPair(1), entryPair(1, "a", lastIno), filePair(lastIno, 1, 0))},
		{"the greatest number, a directory", pairs(dirPair(1), entryPair(1, "a", lastIno), dirPair(lastIno), entryPair(lastIno, "b", 2), dirPair(2))},
		{"a long name", pairs(dirPair(1), long, dirPair(2))},
		{"names that are alike", pairs(dirPair(1), entryPair(1, "a", 2), entryPair(1, "a ", 3), entryPair(1, "ab", 4), entryPair(1, "é", 5), dirPair(2), dirPair(3), dirPair(4), dirPair(5))},
		{"a great file", pairs(dirPair(1), entryPair(1, "a", 2), filePair(2, 1, most), chunkPair(2, 32767, many(32)))},
		{"a great file without bytes", pairs(dirPair(1), entryPair(1, "a", 2), filePair(2, 1, most))},
		{"the last byte of a chunk", pairs(dirPair(1), entryPair(1, "a", 2), filePair(2, 1, 65), chunkPair(2, 0, noughts(31)+"x"), chunkPair(2, 2, "x"))},
		{"links in one directory", pairs(dirPair(1), entryPair(1, "a", 2), entryPair(1, "b", 2), entryPair(1, "c", 2), filePair(2, 3, 0))},
	} {
		if !isFileSystem(c.l) {
			t.Errorf("%s is none by the words", c.what)
		}
		checks(t, c.what, c.l, api.OK)
	}
}

// broken is a clause that is broken, alone, in the yard.
type broken struct {
	what string
	c    []api.Change
}

// TestCheckClauses (Q2): each clause of what it is to hold a file system, broken alone.
func TestCheckClauses(t *testing.T) {
	l := []broken{
		{"no pairs at all", nil},
		{"an inode without an entry: a file", changes(put(filePair(50, 1, 0)))},
		{"an inode without an entry: a directory", changes(put(dirPair(50)))},
		{"an inode whose entry is gone: a file", changes(gone(entryKey(2, "f")))},
		{"an inode whose entry is gone: a directory", changes(gone(entryKey(2, "e")))},
		{"an entry without an inode", changes(put(entryPair(1, "n", 50)))},
		{"an entry whose inode is gone: a file without bytes", changes(gone(inodeKey(6)))},
		{"an entry whose inode is gone: a file", changes(gone(inodeKey(4)))},
		{"an entry whose inode is gone: a directory", changes(gone(inodeKey(8)))},
		{"an entry of a file", changes(put(entryPair(4, "n", 50)), put(filePair(50, 1, 0)))},
		{"an entry of no inode", changes(put(entryPair(50, "n", 51)), put(filePair(51, 1, 0)))},
		{"an entry of the root", changes(put(entryPair(7, "n", 1)))},
		{"a directory with two entries, in one directory", changes(put(entryPair(1, "n", 7)))},
		{"a directory with two entries, in two", changes(put(entryPair(2, "n", 7)))},
		{"a directory that leads to itself, with two entries", changes(put(entryPair(8, "n", 2)))},
		{"a directory that leads to itself, at once", changes(put(dirPair(50)), put(entryPair(50, "n", 50)))},
		{"directories that lead to each other", changes(put(dirPair(50)), put(dirPair(51)), put(entryPair(50, "n", 51)), put(entryPair(51, "n", 50)))},
		{"a ring, and more below it", changes(put(dirPair(50)), put(dirPair(51)), put(dirPair(52)), put(entryPair(50, "n", 51)), put(entryPair(51, "n", 50)), put(entryPair(51, "o", 52)))},
		{"a ring that was cut off", changes(gone(entryKey(1, "d")), put(entryPair(9, "n", 2)))},
		{"links that are too few", changes(put(filePair(3, 1, 6)))},
		{"links that are too many", changes(put(filePair(3, 3, 6)))},
		{"links that are too many by one", changes(put(filePair(4, 2, 5)))},
		{"a link that is gone", changes(gone(entryKey(2, "l")))},
		{"a link more", changes(put(entryPair(1, "n", 4)))},
		{"a chunk behind its file's size", changes(put(filePair(4, 1, 4)))},
		{"a byte behind its file's size", changes(put(chunkPair(4, 0, "hello!")))},
		{"a chunk far behind its file's size", changes(put(chunkPair(4, 1<<32-1, "x")))},
		{"a chunk of a file without bytes", changes(put(chunkPair(6, 0, "x")))},
		{"a chunk behind the greatest size", changes(put(filePair(4, 1, most)), put(chunkPair(4, 32768, "x")))},
		{"a chunk of noughts alone", changes(put(chunkPair(300, 1, "\x00")))},
		{"a chunk of 32 noughts", changes(put(chunkPair(300, 1, noughts(32))))},
		{"a chunk with a nought at its end", changes(put(chunkPair(300, 2, "w\x00")))},
		{"a chunk without a byte", changes(put(chunkPair(300, 1, "")))},
		{"a chunk that is too long", changes(put(chunkPair(300, 1, many(33))))},
		{"a chunk of a directory", changes(put(chunkPair(7, 0, "x")))},
		{"a chunk of no inode", changes(put(chunkPair(50, 0, "x")))},
		{"a pair under noughts", changes(api.Change{Value: "x"})},
		{"a pair under the greatest key", changes(api.Change{Key: greatest(), Value: "x"})},
		{"a pair of number 0", changes(put(dirPair(0)))},
		{"a pair of number 2^30", changes(put(dirPair(1<<30)), put(entryPair(1, "n", 1<<30)))},
		{"a pair of kind 0", changes(api.Change{Key: under(4, 0, ""), Value: "x"})},
		{"a pair of kind 4", changes(api.Change{Key: under(4, 4, ""), Value: "x"})},
		{"an inode's key with a rest", changes(api.Change{Key: under(4, 1, "a"), Value: fileValue(1, 5)})},
		{"a chunk's key with a rest", changes(api.Change{Key: under(4, 3, "a"), Value: "x"})},
		{"a root that is a file", changes(put(filePair(1, 1, 0)))},
	}
	for _, x := range wrongInodes(1) {
		l = append(l, broken{"no root", x})
	}
	for _, ino := range []int{2, 3, 7} {
		for _, x := range wrongInodes(ino) {
			l = append(l, broken{"no inode", x})
		}
	}
	for _, x := range slices.Concat(wrongEntries(1, "f"), wrongEntries(2, "e")) {
		l = append(l, broken{"an entry that tells no number", x})
	}
	for _, k := range wrongEntryKeys(7) {
		l = append(l, broken{"a name that is none", changes(api.Change{Key: k, Value: word(50)}, put(filePair(50, 1, 0)))})
	}
	for _, b := range l {
		var m []api.Pair
		if b.c != nil {
			m = with(yard(), b.c...)
		}
		if isFileSystem(m) {
			t.Errorf("%s is a file system by the words", b.what)
		}
		checks(t, b.what+" "+lines(b.c), m, api.ECorrupt)
	}
}

func greatest() api.Key {
	var k api.Key
	copy(k[:], strings.Repeat("\xff", 24))
	return k
}

// option is pairs that may stand under a key, or (without a value) none.
func option(k api.Key, values ...string) []api.Pair {
	l := pairs(api.Pair{})
	for _, v := range values {
		l = append(l, api.Pair{Key: k, Value: v})
	}
	return l
}

// TestCheckAll (Q2): all maps of a few pairs, against the words.
func TestCheckAll(t *testing.T) {
	options := [][]api.Pair{
		option(inodeKey(1), dirValue, fileValue(1, 0)),
		option(inodeKey(2), dirValue, fileValue(1, 0), fileValue(2, 33)),
		option(inodeKey(3), dirValue, fileValue(1, 40)),
		option(entryKey(1, "a"), word(1), word(2), word(3)),
		option(entryKey(1, "b"), word(2), word(3)),
		option(entryKey(2, "a"), word(1), word(2), word(3)),
		option(entryKey(3, "a"), word(2), word(3)),
		option(chunkKey(2, 1), "x", "xy"),
	}
	right, count := 0, 0
	var on func(l []api.Pair, rest [][]api.Pair)
	on = func(l []api.Pair, rest [][]api.Pair) {
		if len(rest) > 0 {
			for _, x := range rest[0] {
				if x.Value == "" {
					on(l, rest[1:])
				} else {
					on(append(l[:len(l):len(l)], x), rest[1:])
				}
			}
			return
		}
		count++
		want := api.ECorrupt
		if isFileSystem(l) {
			want = api.OK
			right++
		}
		if got := fsops.Check(see(l)); got != want {
			t.Fatalf("Check of %s: %v; want %v", lines(l), got, want)
		}
	}
	on(nil, options)
	if right < 10 || count < 15000 {
		t.Errorf("%d of %d hold a file system", right, count)
	}
}

// TestCheckMany (Q2): many directories below and beside one another, and the same with the way up cut off, or led back.
func TestCheckMany(t *testing.T) {
	const n = 20000
	for _, c := range []struct {
		what   string
		parent func(ino int) int
	}{
		{"below one another", func(ino int) int { return ino - 1 }},
		{"below one another, the other way", func(ino int) int {
			if ino == n {
				return 1
			}
			return ino + 1
		}},
		{"beside one another", func(int) int { return 1 }},
		{"a tree", func(ino int) int { return ino / 2 }},
	} {
		l := pairs(dirPair(1))
		for ino := 2; ino <= n; ino++ {
			l = append(l, dirPair(ino), entryPair(c.parent(ino), fmt.Sprint(ino), ino))
		}
		checks(t, c.what, l, api.OK)
		last := c.parent(n)
		back := with(l, gone(entryKey(last, fmt.Sprint(n))), put(entryPair(n, fmt.Sprint(n), n)))
		checks(t, c.what+", the last one in itself", back, api.ECorrupt)
	}
}

// TestCheckReads (Q2): Check tells of what is there when it is asked.
func TestCheckReads(t *testing.T) {
	v := see(yard())
	holds(t, "the yard", v)
	v.Mark()
	v.Delete(inodeKey(6))
	err(t, "without an inode", fsops.Check(v), api.ECorrupt)
	v.Delete(entryKey(1, "o"))
	holds(t, "and without its entry", v)
	v.Back(0)
	holds(t, "behind Back", v)
	touched(t, "the end", v, spans(api.Span{End: true}), nil)
}
