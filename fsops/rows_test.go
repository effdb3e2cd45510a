package fsops_test

import (
	"slices"
	"testing"

	"wainscot/api"
	"wainscot/fsops"
	"wainscot/view"
)

// TestFresh (Q1): the root's inode is put, and nothing is read.
func TestFresh(t *testing.T) {
	v := view.New(nil)
	err(t, "Fresh", fsops.Fresh(v), api.OK)
	touched(t, "Fresh", v, nil, changes(put(dirPair(1))))
	holds(t, "Fresh", v)
	does(t, v, 2, list("/"), api.Reply{}, false)
	does(t, v, 2, stat("/"), api.Reply{Stat: api.Stat{Dir: true}}, false)
}

// TestExample (Q1): the chapter's.
func TestExample(t *testing.T) {
	s := fresh(t)
	does(t, s.v, 2, create("/a"), api.Reply{}, true)
	is(t, "Changes", s.v.Changes(), changes(put(dirPair(1)), put(entryPair(1, "a", 2)), put(filePair(2, 1, 0))))
}

// row is an op on a view of the yard: what is answered, read and changed.
type row struct {
	o       api.Op
	reply   api.Reply
	reads   []api.Span
	changes []api.Change
}

func (r row) ask(t *testing.T) {
	t.Helper()
	v := see(yard())
	made := r.reply.Err == api.OK && (r.o.Kind == api.OpCreate || r.o.Kind == api.OpMkdir)
	does(t, v, 20, r.o, r.reply, made)
	touched(t, tell(r.o), v, set(r.reads), r.changes)
	holds(t, tell(r.o), v)
}

func wrong(e api.Errno) api.Reply { return api.Reply{Err: e} }

// plus is some spans and others; the some stay as they were.
func plus(l []api.Span, more ...api.Span) []api.Span { return slices.Concat(l, more) }

// The inodes that are walked over: to the root's entries, and to those of the directory /d.
func byRoot(name string) []api.Span { return spans(oneInode(1), oneEntry(1, name)) }
func byD(name string) []api.Span {
	return spans(oneInode(1), oneEntry(1, "d"), oneInode(2), oneEntry(2, name))
}

// TestTellRows (Q1): ops that tell: of each kind of inode, with what is read of the view.
func TestTellRows(t *testing.T) {
	three := plus(byRoot("f"), oneInode(3))
	wide := plus(byRoot("w"), oneInode(300))
	for _, r := range []row{
		{stat("/"), api.Reply{Stat: api.Stat{Dir: true}}, spans(oneInode(1)), nil},
		{stat("/f"), api.Reply{Stat: api.Stat{Links: 2, Size: 6}}, three, nil},
		{stat("/d"), api.Reply{Stat: api.Stat{Dir: true}}, plus(byRoot("d"), oneInode(2)), nil},
		{stat("/d/l"), api.Reply{Stat: api.Stat{Links: 2, Size: 6}}, plus(byD("l"), oneInode(3)), nil},
		{stat("/none"), wrong(api.ENone), byRoot("none"), nil},
		{stat("/none/x"), wrong(api.ENone), byRoot("none"), nil},
		{stat("/f/x"), wrong(api.ENotDir), three, nil},
		{stat("/f/x/y"), wrong(api.ENotDir), three, nil},
		{stat("/d/none"), wrong(api.ENone), byD("none"), nil},
		{stat("d"), wrong(api.EArg), nil, nil},

		{list("/"), api.Reply{Names: texts("d", "e", "f", "o", "w")}, spans(oneInode(1), entries(1)), nil},
		{list("/d"), api.Reply{Names: texts("e", "f", "k", "l")}, plus(byRoot("d"), oneInode(2), entries(2)), nil},
		{list("/e"), api.Reply{}, plus(byRoot("e"), oneInode(7), entries(7)), nil},
		{list("/f"), wrong(api.ENotDir), three, nil},
		{list("/none"), wrong(api.ENone), byRoot("none"), nil},

		{read("/f", 0, 9), api.Reply{Data: "\x00\x00\x00abc"}, plus(three, chunks(3, 0, 0)), nil},
		{read("/f", 4, 1), api.Reply{Data: "b"}, plus(three, chunks(3, 0, 0)), nil},
		{read("/f", 6, 9), api.Reply{}, three, nil},
		{read("/f", huge, once), api.Reply{}, three, nil},
		{read("/f", 2, 0), api.Reply{}, three, nil},
		{read("/w", 30, 10), api.Reply{Data: "xx" + noughts(8)}, plus(wide, chunks(300, 0, 1)), nil},
		{read("/w", 64, 1), api.Reply{Data: "w"}, plus(wide, chunks(300, 2, 2)), nil},
		{read("/w", 100, once), api.Reply{Data: noughts(92) + many(8)}, plus(wide, chunks(300, 3, 6)), nil},
		{read("/o", 0, 9), api.Reply{}, plus(byRoot("o"), oneInode(6)), nil},
		{read("/d", 0, 9), wrong(api.EIsDir), plus(byRoot("d"), oneInode(2)), nil},
		{read("/", 0, 9), wrong(api.EIsDir), spans(oneInode(1)), nil},
		{read("/f", -1, once+1), wrong(api.EArg), nil, nil},
		{read("/none", 0, -1), wrong(api.EArg), nil, nil},
		{read("/none", 0, once+1), wrong(api.ETooBig), nil, nil},
		{read("/none", 0, once), wrong(api.ENone), byRoot("none"), nil},
	} {
		r.ask(t)
	}
}

// TestWriteRows (Q1): an inode's value is written just where it changes.
func TestWriteRows(t *testing.T) {
	three := plus(byRoot("f"), oneInode(3))
	wide := plus(byRoot("w"), oneInode(300))
	for _, r := range []row{
		{write("/f", 1, "x"), api.Reply{}, plus(three, chunks(3, 0, 0)), changes(put(chunkPair(3, 0, "\x00x\x00abc")))},
		{write("/f", 5, "x"), api.Reply{}, plus(three, chunks(3, 0, 0)), changes(put(chunkPair(3, 0, "\x00\x00\x00abx")))},
		{write("/f", 5, "xy"), api.Reply{}, plus(three, chunks(3, 0, 0)), changes(put(filePair(3, 2, 7)), put(chunkPair(3, 0, "\x00\x00\x00abxy")))},
		{write("/d/l", 64, many(32)), api.Reply{}, plus(byD("l"), oneInode(3)), changes(put(filePair(3, 2, 96)), put(chunkPair(3, 2, many(32))))},
		{write("/w", 0, noughts(40)), api.Reply{}, plus(wide, chunks(300, 1, 1)), changes(gone(chunkKey(300, 0)), gone(chunkKey(300, 1)))},
		{write("/o", 3, "\x00"), api.Reply{}, plus(byRoot("o"), oneInode(6), chunks(6, 0, 0)), changes(put(filePair(6, 1, 4)), gone(chunkKey(6, 0)))},
		{write("/f", 9, ""), api.Reply{}, three, nil},
		{write("/f", most, ""), api.Reply{}, three, nil},
		{write("/f", most-1, "x"), api.Reply{}, plus(three, chunks(3, 32767, 32767)), changes(put(filePair(3, 2, most)), put(chunkPair(3, 32767, noughts(31)+"x")))},
		{write("/f", most, "x"), wrong(api.ETooBig), nil, nil},
		{write("/f", most+1, ""), wrong(api.ETooBig), nil, nil},
		{write("/f", huge, "x"), wrong(api.ETooBig), nil, nil},
		{write("/f", -1, many(once+1)), wrong(api.EArg), nil, nil},
		{write("/f", 0, many(once+1)), wrong(api.ETooBig), nil, nil},
		{write("/d", 0, "x"), wrong(api.EIsDir), plus(byRoot("d"), oneInode(2)), nil},
		{write("/d", 0, ""), wrong(api.EIsDir), plus(byRoot("d"), oneInode(2)), nil},
		{write("/", 0, "x"), wrong(api.EIsDir), spans(oneInode(1)), nil},
		{write("/none", 0, "x"), wrong(api.ENone), byRoot("none"), nil},

		{truncate("/w", 200), api.Reply{}, wide, nil},
		{truncate("/w", 201), api.Reply{}, wide, changes(put(filePair(300, 1, 201)))},
		{truncate("/w", most), api.Reply{}, wide, changes(put(filePair(300, 1, most)))},
		{truncate("/w", 199), api.Reply{}, plus(wide, chunksOn(300, 6)), changes(put(filePair(300, 1, 199)), put(chunkPair(300, 6, many(7))))},
		{truncate("/w", 64), api.Reply{}, plus(wide, chunksOn(300, 2)), changes(put(filePair(300, 1, 64)), gone(chunkKey(300, 2)), gone(chunkKey(300, 6)))},
		{truncate("/w", 1), api.Reply{}, plus(wide, chunksOn(300, 0)), changes(put(filePair(300, 1, 1)), put(chunkPair(300, 0, "x")), gone(chunkKey(300, 2)), gone(chunkKey(300, 6)))},
		{truncate("/f", 2), api.Reply{}, plus(three, chunksOn(3, 0)), changes(put(filePair(3, 2, 2)), gone(chunkKey(3, 0)))},
		{truncate("/o", 0), api.Reply{}, plus(byRoot("o"), oneInode(6)), nil},
		{truncate("/w", -1), wrong(api.EArg), nil, nil},
		{truncate("/none", most+1), wrong(api.ETooBig), nil, nil},
		{truncate("/d", 0), wrong(api.EIsDir), plus(byRoot("d"), oneInode(2)), nil},
		{truncate("/", 0), wrong(api.EIsDir), spans(oneInode(1)), nil},
		{truncate("/none", 0), wrong(api.ENone), byRoot("none"), nil},
	} {
		r.ask(t)
	}
}

// TestMakeRows (Q1): of a new name no more than its entry is read, and no directory's inode is written.
func TestMakeRows(t *testing.T) {
	for _, kind := range []int{api.OpCreate, api.OpMkdir} {
		x := map[int]api.Pair{api.OpCreate: filePair(20, 1, 0), api.OpMkdir: dirPair(20)}[kind]
		o := func(path string) api.Op { return api.Op{Kind: kind, Path: path} }
		for _, r := range []row{
			{o("/n"), api.Reply{}, byRoot("n"), changes(put(entryPair(1, "n", 20)), put(x))},
			{o("/d/n"), api.Reply{}, byD("n"), changes(put(entryPair(2, "n", 20)), put(x))},
			{o("/"), wrong(api.EExist), nil, nil},
			{o("/f"), wrong(api.EExist), byRoot("f"), nil},
			{o("/d"), wrong(api.EExist), byRoot("d"), nil},
			{o("/d/e"), wrong(api.EExist), byD("e"), nil},
			{o("/none/n"), wrong(api.ENone), byRoot("none"), nil},
			{o("/f/n"), wrong(api.ENotDir), plus(byRoot("f"), oneInode(3)), nil},
			{o("/n/"), wrong(api.EArg), nil, nil},
			{o(""), wrong(api.EArg), nil, nil},
		} {
			r.ask(t)
		}
	}
}

// TestRemoveRows (Q1): what is gone leaves nothing; of a file without bytes no chunk is looked for.
func TestRemoveRows(t *testing.T) {
	for _, r := range []row{
		{unlink("/f"), api.Reply{}, plus(byRoot("f"), oneInode(3)), changes(gone(entryKey(1, "f")), put(filePair(3, 1, 6)))},
		{unlink("/d/l"), api.Reply{}, plus(byD("l"), oneInode(3)), changes(gone(entryKey(2, "l")), put(filePair(3, 1, 6)))},
		{unlink("/d/f"), api.Reply{}, plus(byD("f"), oneInode(4), chunksOn(4, 0)), changes(gone(entryKey(2, "f")), gone(inodeKey(4)), gone(chunkKey(4, 0)))},
		{unlink("/w"), api.Reply{}, plus(byRoot("w"), oneInode(300), chunksOn(300, 0)),
			changes(gone(entryKey(1, "w")), gone(inodeKey(300)), gone(chunkKey(300, 0)), gone(chunkKey(300, 2)), gone(chunkKey(300, 6)))},
		{unlink("/d/k/x"), api.Reply{}, plus(byD("k"), oneInode(9), oneEntry(9, "x"), oneInode(10), chunksOn(10, 0)), changes(gone(entryKey(9, "x")), gone(inodeKey(10)))},
		{unlink("/o"), api.Reply{}, plus(byRoot("o"), oneInode(6)), changes(gone(entryKey(1, "o")), gone(inodeKey(6)))},
		{unlink("/"), wrong(api.EIsDir), nil, nil},
		{unlink("/d"), wrong(api.EIsDir), plus(byRoot("d"), oneInode(2)), nil},
		{unlink("/e"), wrong(api.EIsDir), plus(byRoot("e"), oneInode(7)), nil},
		{unlink("/none"), wrong(api.ENone), byRoot("none"), nil},
		{unlink("/f/x"), wrong(api.ENotDir), plus(byRoot("f"), oneInode(3)), nil},

		{rmdir("/e"), api.Reply{}, plus(byRoot("e"), oneInode(7), entries(7)), changes(gone(entryKey(1, "e")), gone(inodeKey(7)))},
		{rmdir("/d/e"), api.Reply{}, plus(byD("e"), oneInode(8), entries(8)), changes(gone(entryKey(2, "e")), gone(inodeKey(8)))},
		{rmdir("/d"), wrong(api.ENotEmpty), plus(byRoot("d"), oneInode(2), entries(2)), nil},
		{rmdir("/"), wrong(api.EArg), nil, nil},
		{rmdir("/f"), wrong(api.ENotDir), plus(byRoot("f"), oneInode(3)), nil},
		{rmdir("/none"), wrong(api.ENone), byRoot("none"), nil},
	} {
		r.ask(t)
	}
}

// joined is the spans of several walks.
func joined(l ...[]api.Span) []api.Span { return slices.Concat(l...) }

// TestLinkRows (Q1): of the new name no more than its entry is read.
func TestLinkRows(t *testing.T) {
	three, d := plus(byRoot("f"), oneInode(3)), plus(byRoot("d"), oneInode(2))
	for _, r := range []row{
		{link("/f", "/n"), api.Reply{}, joined(three, byRoot("n")), changes(put(entryPair(1, "n", 3)), put(filePair(3, 3, 6)))},
		{link("/f", "/d/n"), api.Reply{}, joined(three, byD("n")), changes(put(entryPair(2, "n", 3)), put(filePair(3, 3, 6)))},
		{link("/f", "/f"), wrong(api.EExist), three, nil},
		{link("/f", "/o"), wrong(api.EExist), joined(three, byRoot("o")), nil},
		{link("/f", "/d"), wrong(api.EExist), joined(three, byRoot("d")), nil},
		{link("/f", "/d/l"), wrong(api.EExist), joined(three, byD("l")), nil},
		{link("/f", "/none/n"), wrong(api.ENone), joined(three, byRoot("none")), nil},
		{link("/f", "/o/n"), wrong(api.ENotDir), joined(three, byRoot("o"), spans(oneInode(6))), nil},
		{link("/f", "/f/n"), wrong(api.ENotDir), three, nil},
		{link("/d", "/n"), wrong(api.EIsDir), d, nil},
		{link("/d", "/none/n"), wrong(api.EIsDir), d, nil},
		{link("/none", "/n"), wrong(api.ENone), byRoot("none"), nil},
		{link("/none", "/f/n"), wrong(api.ENone), byRoot("none"), nil},
		{link("/", "/n"), wrong(api.EArg), nil, nil},
		{link("/f", "/"), wrong(api.EArg), nil, nil},
		{link("/none", "/"), wrong(api.EArg), nil, nil},
		{link("/none", "n"), wrong(api.EArg), nil, nil},
		{link("none", "/n"), wrong(api.EArg), nil, nil},
	} {
		r.ask(t)
	}
}

// TestRenameRows (Q1): of the new name no more than its entry is read, unless something else has it.
func TestRenameRows(t *testing.T) {
	three, d, e := plus(byRoot("f"), oneInode(3)), plus(byRoot("d"), oneInode(2)), plus(byRoot("e"), oneInode(7))
	for _, r := range []row{
		{rename("/f", "/n"), api.Reply{}, joined(three, byRoot("n")), changes(gone(entryKey(1, "f")), put(entryPair(1, "n", 3)))},
		{rename("/f", "/d/n"), api.Reply{}, joined(three, byD("n")), changes(gone(entryKey(1, "f")), put(entryPair(2, "n", 3)))},
		{rename("/d", "/n"), api.Reply{}, joined(d, byRoot("n")), changes(gone(entryKey(1, "d")), put(entryPair(1, "n", 2)))},
		{rename("/d", "/e/n"), api.Reply{}, joined(d, e, spans(oneEntry(7, "n"))), changes(gone(entryKey(1, "d")), put(entryPair(7, "n", 2)))},
		{rename("/d/e", "/n"), api.Reply{}, joined(byD("e"), spans(oneInode(8)), byRoot("n")), changes(put(entryPair(1, "n", 8)), gone(entryKey(2, "e")))},
		{rename("/f", "/f"), api.Reply{}, three, nil},
		{rename("/d", "/d"), api.Reply{}, d, nil},
		{rename("/f", "/d/l"), api.Reply{}, joined(three, byD("l")), nil},
		{rename("/d/l", "/f"), api.Reply{}, joined(three, byD("l")), nil},
		{rename("/f", "/o"), api.Reply{}, joined(three, byRoot("o"), spans(oneInode(6))),
			changes(gone(entryKey(1, "f")), put(entryPair(1, "o", 3)), gone(inodeKey(6)))},
		{rename("/f", "/w"), api.Reply{}, joined(three, byRoot("w"), spans(oneInode(300), chunksOn(300, 0))),
			changes(gone(entryKey(1, "f")), put(entryPair(1, "w", 3)), gone(inodeKey(300)), gone(chunkKey(300, 0)), gone(chunkKey(300, 2)), gone(chunkKey(300, 6)))},
		{rename("/o", "/f"), api.Reply{}, joined(byRoot("o"), spans(oneInode(6)), three),
			changes(put(entryPair(1, "f", 6)), gone(entryKey(1, "o")), put(filePair(3, 1, 6)))},
		{rename("/d/k", "/e"), api.Reply{}, joined(byD("k"), spans(oneInode(9)), e, spans(entries(7))),
			changes(put(entryPair(1, "e", 9)), gone(entryKey(2, "k")), gone(inodeKey(7)))},
		{rename("/e", "/d/e"), api.Reply{}, joined(e, byD("e"), spans(oneInode(8), entries(8))),
			changes(gone(entryKey(1, "e")), put(entryPair(2, "e", 7)), gone(inodeKey(8)))},
		{rename("/e", "/d"), wrong(api.ENotEmpty), joined(e, d, spans(entries(2))), nil},
		{rename("/d/e", "/d"), wrong(api.ENotEmpty), joined(byD("e"), spans(oneInode(8)), d, spans(entries(2))), nil},
		{rename("/f", "/e"), wrong(api.EIsDir), joined(three, e), nil},
		{rename("/d/f", "/d"), wrong(api.EIsDir), joined(byD("f"), spans(oneInode(4)), d), nil},
		{rename("/e", "/f"), wrong(api.ENotDir), joined(e, three), nil},
		{rename("/d", "/d/n"), wrong(api.EArg), d, nil},
		{rename("/d", "/d/e"), wrong(api.EArg), d, nil},
		{rename("/d", "/d/e/n"), wrong(api.EArg), joined(d, byD("e"), spans(oneInode(8))), nil},
		{rename("/d", "/d/none/n"), wrong(api.ENone), joined(d, byD("none")), nil},
		{rename("/d", "/d/f/n"), wrong(api.ENotDir), joined(d, byD("f"), spans(oneInode(4))), nil},
		{rename("/f", "/f/n"), wrong(api.ENotDir), three, nil},
		{rename("/f", "/none/n"), wrong(api.ENone), joined(byRoot("f"), byRoot("none")), nil},
		{rename("/none", "/n"), wrong(api.ENone), byRoot("none"), nil},
		{rename("/none", "/none"), wrong(api.ENone), byRoot("none"), nil},
		{rename("/none", "/f/n"), wrong(api.ENone), byRoot("none"), nil},
		{rename("/", "/n"), wrong(api.EArg), nil, nil},
		{rename("/f", "/"), wrong(api.EArg), nil, nil},
		{rename("/none", "/"), wrong(api.EArg), nil, nil},
		{rename("/", "/"), wrong(api.EArg), nil, nil},
		{rename("/none", "/.."), wrong(api.EArg), nil, nil},
		{rename("", "/n"), wrong(api.EArg), nil, nil},
	} {
		r.ask(t)
	}
}

// TestOtherKinds (Q1): of any other op EArg is answered, and nothing is read.
func TestOtherKinds(t *testing.T) {
	for _, kind := range []int{tiny, -1, 0, 12, 13, 256 + 1, 1<<32 + 1, huge} {
		for _, path := range texts("/", "/f", "/none", "none", "") {
			row{api.Op{Kind: kind, Path: path, To: "/n"}, wrong(api.EArg), nil, nil}.ask(t)
		}
	}
}
