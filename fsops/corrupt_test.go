package fsops_test

import (
	"testing"

	"wainscot/api"
	"wainscot/fsops"
	"wainscot/span"
)

func values(x api.Pair, l ...string) [][]api.Change {
	var all [][]api.Change
	for _, v := range l {
		all = append(all, changes(api.Change{Key: x.Key, Value: v}))
	}
	return all
}

// wrongInodes is ways in which there is no inode under a number.
func wrongInodes(ino int) [][]api.Change {
	l := values(dirPair(ino), "", "\x00", "\x03", "\x01\x00", "\x02", fileValue(0, 0), fileValue(most64K+1, 0), fileValue(1, most+1), fileValue(1, 0)[:8], fileValue(1, 0)+"\x00", "\x01"+fileValue(1, 0)[1:])
	return append(l, changes(gone(inodeKey(ino))))
}

// wrongEntries is ways in which an entry tells no number.
func wrongEntries(dir int, name string) [][]api.Change {
	return values(entryPair(dir, name, 1), "", "\x00", word(0), word(1<<30), word(-1), word(2)+"\x00", word(2)[1:])
}

// corrupt asks for ECorrupt of each of some ops on the yard with such changes in it, and for the others' own answers.
func corrupt(t *testing.T, c []api.Change, upon []api.Op, others ...api.Op) {
	t.Helper()
	l := with(yard(), c...)
	err(t, "Check", fsops.Check(see(l)), api.ECorrupt)
	for _, o := range upon {
		v := see(l)
		own := ownChanges(v)
		does(t, v, 20, o, api.Reply{Err: api.ECorrupt}, false)
		is(t, "Changes behind "+tell(o), v.Changes(), own)
	}
	for _, o := range others {
		want, made := fsops.Do(see(yard()), 20, o)
		does(t, see(l), 20, o, want, made)
	}
	if t.Failed() {
		t.Fatalf("with %s", lines(c))
	}
}

// TestNoInode (Q1): the number that an entry tells is no inode's.
func TestNoInode(t *testing.T) {
	for _, c := range wrongInodes(2) {
		corrupt(t, c, ops(stat("/d"), list("/d"), read("/d", 0, 1), write("/d", 0, "x"), write("/d", 0, ""), unlink("/d"), rmdir("/d"), truncate("/d", 0), stat("/d/f"), stat("/d/none/x"),
			create("/d/n"), mkdir("/d/n"), create("/d/f"), link("/d", "/n"), link("/f", "/d/n"), link("/d/l", "/n"), rename("/d", "/n"), rename("/d", "/d"), rename("/f", "/d"), rename("/f", "/d/n"), rename("/d/f", "/n")),
			stat("/f"), create("/n"), create("/d"), mkdir("/d"), link("/f", "/d"), unlink("/w"), list("/"))
	}
	for _, c := range wrongInodes(3) {
		corrupt(t, c, ops(stat("/f"), stat("/d/l"), read("/f", 0, 9), write("/f", 0, "x"), unlink("/f"), truncate("/f", 1), link("/f", "/n"), rename("/f", "/n"), rename("/o", "/f"), stat("/f/x"), create("/f/x")),
			list("/d"), create("/f"), link("/w", "/f"), unlink("/o"))
	}
}

// TestNoRoot (Q1): the root is no directory. What is answered of the root by its path alone does not come upon it.
func TestNoRoot(t *testing.T) {
	for _, c := range append(wrongInodes(1), changes(put(filePair(1, 1, 0))), changes(put(filePair(1, 2, 9)))) {
		corrupt(t, c, ops(stat("/"), list("/"), read("/", 0, 1), write("/", 0, "x"), truncate("/", 0), stat("/f"), stat("/none"), create("/n"), mkdir("/n"), unlink("/f"), rmdir("/e"), rename("/f", "/n"), link("/f", "/n")),
			create("/"), mkdir("/"), unlink("/"), rmdir("/"), rename("/", "/n"), rename("/f", "/"), link("/", "/n"), link("/f", "/"))
	}
}

// TestNoNumber (Q1): an entry tells no number.
func TestNoNumber(t *testing.T) {
	for _, c := range wrongEntries(1, "d") {
		corrupt(t, c, ops(stat("/d"), list("/d"), create("/d"), mkdir("/d"), create("/d/n"), rmdir("/d"), unlink("/d"), link("/d", "/n"), link("/f", "/d"), rename("/d", "/n"), rename("/f", "/d"), rename("/f", "/d/n")),
			stat("/f"), create("/n"), list("/"), unlink("/f"), rename("/f", "/n"))
	}
}

// TestRootHasAnEntry (Q1): the root is no entry's.
func TestRootHasAnEntry(t *testing.T) {
	for _, c := range [][]api.Change{changes(put(entryPair(1, "r", 1))), changes(put(entryPair(1, "r", 1)), gone(entryKey(1, "e")), gone(inodeKey(7)))} {
		corrupt(t, c, ops(stat("/r"), list("/r"), create("/r"), stat("/r/f"), create("/r/n"), rmdir("/r"), link("/f", "/r"), rename("/r", "/n"), rename("/f", "/r"), rename("/f", "/r/n")),
			stat("/f"), create("/n"), stat("/"))
	}
	corrupt(t, changes(put(entryPair(9, "r", 1))), ops(stat("/d/k/r"), stat("/d/k/r/d"), create("/d/k/r"), rename("/d/k/r", "/n")), stat("/d/k"), list("/d/k/x"))
}

// TestTwoEntries (Q1): a directory with two entries, and one that leads to itself, where the op comes by both of them.
func TestTwoEntries(t *testing.T) {
	self := changes(put(entryPair(2, "s", 2)))
	corrupt(t, self, ops(stat("/d/s/f"), stat("/d/s"), list("/d/s"), create("/d/s"), create("/d/s/n"), create("/d/s/s/n"), rename("/d/s", "/n"), rename("/f", "/d/s")),
		stat("/d"), stat("/d/f"), create("/d/n"), rename("/d/f", "/n"))
	ring := changes(put(entryPair(9, "s", 2)))
	corrupt(t, ring, ops(stat("/d/k/s"), stat("/d/k/s/k/s/k/x"), stat("/d/k/s/none"), create("/d/k/s/n"), rename("/d/k/s", "/n"), rename("/d", "/d/k/s/n")),
		stat("/d/k"), list("/d"), unlink("/d/k/x"))
	two := changes(put(entryPair(1, "t", 2)))
	corrupt(t, two, ops(rename("/d", "/t"), rename("/t", "/d"), rename("/d", "/t/n"), rename("/d/f", "/t/f"), rename("/d/f", "/t/n"), link("/d/f", "/t/n"), rename("/t/k", "/d/k")),
		stat("/d"), stat("/d/f"), create("/d/n"), rename("/d/f", "/n"))
	for _, c := range [][]api.Change{self, ring} {
		err(t, "below itself, wherever it leads", doErr(with(yard(), c...), rename("/d", "/d/s")), api.EArg)
	}
	err(t, "by the other one", doErr(with(yard(), two...), stat("/t/f")), api.OK)
}

func doErr(l []api.Pair, o api.Op) api.Errno {
	r, _ := fsops.Do(see(l), 20, o)
	return r.Err
}

// TestTooFewLinks (Q1): a file with fewer links than the entries that the op comes by.
func TestTooFewLinks(t *testing.T) {
	c := changes(put(filePair(3, 1, 6)))
	corrupt(t, c, ops(rename("/f", "/d/l"), rename("/d/l", "/f"), link("/f", "/d/l")))
	err(t, "one entry", doErr(with(yard(), c...), stat("/f")), api.OK)
	err(t, "the same entry", doErr(with(yard(), c...), rename("/f", "/f")), api.OK)
	err(t, "the same entry", doErr(with(yard(), c...), link("/f", "/f")), api.EExist)
}

// TestNoNames (Q1): what stands among the entries is no entry's key, or its name is none.
func TestNoNames(t *testing.T) {
	for _, k := range wrongEntryKeys(7) {
		c := changes(api.Change{Key: k, Value: word(6)})
		corrupt(t, c, ops(list("/e")), stat("/e"), list("/"), create("/e/n"), rename("/f", "/e/n"))
		err(t, "rmdir", doErr(with(yard(), c...), rmdir("/e")), api.ENotEmpty)
		err(t, "rename", doErr(with(yard(), c...), rename("/d/e", "/e")), api.ENotEmpty)
	}
}

// wrongEntryKeys is keys among a directory's entries that are no entry's, or whose names are none.
func wrongEntryKeys(dir int) []api.Key {
	l := []api.Key{under(dir, 2, ""), under(dir, 2, "a"), under(dir, 2, "a"+noughts(17)+"\x02"), under(dir, 2, "a\x00b"+noughts(15)+"\x03"), under(dir, 2, many(18)+"\x13"), under(dir, 2, "ab"+noughts(16)+"\x01")}
	for _, n := range texts(".", "..", "a/b", "/", "a\x1f", "\x7f", "\xff", "\xc0\x80", "\xed\xa0\x80", "a\xcc") {
		l = append(l, entryKey(dir, n))
	}
	return l
}

// TestMutations (Q1, Q2, R2): of a yard in which anything is changed: Check is right, no op panics, none that fails changes anything, none comes upon what it does not read, and none answers ECorrupt where all is well.
func TestMutations(t *testing.T) {
	d := dice(16)
	healthy := yard()
	for range 4000 {
		var c []api.Change
		for range 1 + d.below(2) {
			c = append(c, d.mutation(healthy))
		}
		l := with(healthy, c...)
		well := isFileSystem(l)
		err(t, "Check", fsops.Check(see(l)), map[bool]api.Errno{true: api.OK, false: api.ECorrupt}[well])
		for range 8 {
			o := thrown(&d, yardOps()...)
			v := see(l)
			r, made := fsops.Do(v, 20, o)
			if r.Err != api.OK && (len(v.Changes()) > 0 || made || !alike(r, wrong(r.Err))) {
				t.Errorf("%s: %s, %v, and there are changes", tell(o), told(r), made)
			}
			if r.Err == api.ECorrupt && well {
				t.Errorf("%s: %s, of what is well", tell(o), told(r))
			}
			if !span.Any(v.Reads(), keysOf(c)) {
				does(t, see(healthy), 20, o, r, made)
			}
		}
		if t.Failed() {
			t.Fatalf("with %s", lines(c))
		}
	}
}

func keysOf(c []api.Change) []api.Key {
	var l []api.Key
	for _, x := range c {
		l = append(l, x.Key)
	}
	return l
}

// mutation is a change of a pair that there is, or of one that is near.
func (d *dice) mutation(l []api.Pair) api.Change {
	x, y := thrown(d, l...), thrown(d, l...)
	switch d.below(8) {
	case 0:
		return gone(x.Key)
	case 1:
		return api.Change{Key: x.Key, Value: y.Value}
	case 2:
		x.Key[d.below(24)] ^= byte(1 << d.below(8))
		return put(x)
	case 3:
		return put(entryPair(thrown(d, 1, 2, 7, 8, 9, 4, 50), thrown(d, "d", "e", "f", "k", "n", "."), thrown(d, 1, 2, 3, 4, 6, 7, 8, 9, 10, 50)))
	case 4:
		return put(filePair(thrown(d, 3, 4, 6, 10, 300, 50), 1+d.below(3), thrown(d, 0, 5, 6, 31, 32, 40, 199, 200, 201, most, most+1)))
	case 5:
		return put(chunkPair(thrown(d, 3, 4, 6, 10, 300, 2, 50), d.below(8), thrown(d, "", "x", "x\x00", "\x00", many(32), many(33))))
	case 6:
		return put(dirPair(thrown(d, 1, 2, 3, 7, 50)))
	}
	b := []byte(x.Value)
	b[d.below(len(b))] = byte(d.below(256))
	return api.Change{Key: x.Key, Value: string(b)}
}
