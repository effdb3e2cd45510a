package fsops_test

import (
	"fmt"
	"slices"
	"strings"
	"testing"

	"wainscot/api"
	"wainscot/fsops"
	"wainscot/view"
)

const (
	most    = 1 << 20   // bytes of a file
	most64K = 65535     // links of a file
	huge    = 1<<63 - 1 // the greatest number
	tiny    = -1 << 63  // the least one
	once    = 4096      // bytes that are read or written at once
	lastIno = 1<<30 - 1 // the greatest number of an inode
)

func stat(path string) api.Op   { return api.Op{Kind: api.OpStat, Path: path} }
func list(path string) api.Op   { return api.Op{Kind: api.OpList, Path: path} }
func create(path string) api.Op { return api.Op{Kind: api.OpCreate, Path: path} }
func mkdir(path string) api.Op  { return api.Op{Kind: api.OpMkdir, Path: path} }
func unlink(path string) api.Op { return api.Op{Kind: api.OpUnlink, Path: path} }
func rmdir(path string) api.Op  { return api.Op{Kind: api.OpRmdir, Path: path} }

func read(path string, off, n int) api.Op {
	return api.Op{Kind: api.OpRead, Path: path, Off: off, N: n}
}
func write(path string, off int, data string) api.Op {
	return api.Op{Kind: api.OpWrite, Path: path, Off: off, Data: data}
}
func truncate(path string, n int) api.Op { return api.Op{Kind: api.OpTruncate, Path: path, N: n} }
func link(path, to string) api.Op        { return api.Op{Kind: api.OpLink, Path: path, To: to} }
func rename(path, to string) api.Op      { return api.Op{Kind: api.OpRename, Path: path, To: to} }

func ops(l ...api.Op) []api.Op             { return l }
func texts(l ...string) []string           { return l }
func pairs(l ...api.Pair) []api.Pair       { return l }
func changes(l ...api.Change) []api.Change { return l }
func spans(l ...api.Span) []api.Span       { return l }
func noughts(n int) string                 { return strings.Repeat("\x00", n) }
func many(n int) string                    { return strings.Repeat("x", n) }

// word is four bytes, the highest first.
func word(n int) string { return string([]byte{byte(n >> 24), byte(n >> 16), byte(n >> 8), byte(n)}) }

// under is the key that has this number and kind, and this rest, with noughts behind it.
func under(ino, kind int, rest string) api.Key {
	var k api.Key
	copy(k[:], word(ino)+string([]byte{byte(kind)})+rest)
	return k
}

func inodeKey(ino int) api.Key { return under(ino, 1, "") }
func entryKey(dir int, name string) api.Key {
	return under(dir, 2, name+noughts(18-len(name))+string([]byte{byte(len(name))}))
}
func chunkKey(ino, place int) api.Key { return under(ino, 3, noughts(15)+word(place)) }

const dirValue = "\x01"

func fileValue(links, size int) string { return "\x02" + word(links) + word(size) }

// The pairs of a map: directories, files, entries and chunks.
func dirPair(ino int) api.Pair { return api.Pair{Key: inodeKey(ino), Value: dirValue} }
func filePair(ino, links, size int) api.Pair {
	return api.Pair{Key: inodeKey(ino), Value: fileValue(links, size)}
}
func entryPair(dir int, name string, ino int) api.Pair {
	return api.Pair{Key: entryKey(dir, name), Value: word(ino)}
}
func chunkPair(ino, place int, value string) api.Pair {
	return api.Pair{Key: chunkKey(ino, place), Value: value}
}

// put is the change that lets there be a pair.
func put(x api.Pair) api.Change { return api.Change{Key: x.Key, Value: x.Value} }

// gone is the change that takes a key away.
func gone(k api.Key) api.Change { return api.Change{Key: k, Gone: true} }

// one is the span of a key alone; of none that is right the last byte is so great that the next one runs over.
func one(k api.Key) api.Span {
	to := k
	to[23]++
	return api.Span{From: k, To: to}
}

func oneInode(ino int) api.Span              { return one(inodeKey(ino)) }
func oneEntry(dir int, name string) api.Span { return one(entryKey(dir, name)) }
func entries(dir int) api.Span               { return api.Span{From: under(dir, 2, ""), To: under(dir, 3, "")} }
func chunksOn(ino, first int) api.Span {
	return api.Span{From: chunkKey(ino, first), To: under(ino, 4, "")}
}
func chunks(ino, first, last int) api.Span {
	return api.Span{From: chunkKey(ino, first), To: chunkKey(ino, last+1)}
}

// yard is a map that holds a file system with something of each kind: files with one link and two, with and without bytes, directories with entries and without.
func yard() []api.Pair {
	return pairs(
		dirPair(1), entryPair(1, "d", 2), entryPair(1, "e", 7), entryPair(1, "f", 3), entryPair(1, "o", 6), entryPair(1, "w", 300),
		dirPair(2), entryPair(2, "e", 8), entryPair(2, "f", 4), entryPair(2, "k", 9), entryPair(2, "l", 3),
		filePair(3, 2, 6), chunkPair(3, 0, "\x00\x00\x00abc"),
		filePair(4, 1, 5), chunkPair(4, 0, "hello"),
		filePair(6, 1, 0),
		dirPair(7),
		dirPair(8),
		dirPair(9), entryPair(9, "x", 10),
		filePair(10, 1, 40),
		filePair(300, 1, 200), chunkPair(300, 0, many(32)), chunkPair(300, 2, "w"), chunkPair(300, 6, many(8)),
	)
}

// with is a map with changes in it, made by hand.
func with(l []api.Pair, c ...api.Change) []api.Pair {
	return slices.Collect(func(yield func(api.Pair) bool) {
		last := map[api.Key]api.Change{}
		for _, x := range l {
			last[x.Key] = put(x)
		}
		for _, x := range c {
			last[x.Key] = x
		}
		keys := make([]api.Key, 0, len(last))
		for k := range last {
			keys = append(keys, k)
		}
		slices.SortFunc(keys, compare)
		for _, k := range keys {
			if x := last[k]; !x.Gone && !yield(api.Pair{Key: k, Value: x.Value}) {
				return
			}
		}
	})
}

func compare(a, b api.Key) int { return strings.Compare(string(a[:]), string(b[:])) }

// see is a view of these pairs.
func see(l []api.Pair) *view.View { return view.New(view.NewPlain(l)) }

// tell is an op, short.
func tell(o api.Op) string {
	return fmt.Sprintf("{%d %.60q %.60q Off %d N %d, %d bytes %.20q}", o.Kind, o.Path, o.To, o.Off, o.N, len(o.Data), o.Data)
}

// told is a reply, short.
func told(r api.Reply) string {
	return fmt.Sprintf("{%v, %d bytes %.40q, %.200q, %v}", r.Err, len(r.Data), r.Data, r.Names, r.Stat)
}

// alike tells whether two replies are the same; no names may be told in two ways.
func alike(a, b api.Reply) bool {
	return a.Err == b.Err && a.Data == b.Data && a.Stat == b.Stat && slices.Equal(a.Names, b.Names)
}

// is asks for just these items.
func is[V comparable](t *testing.T, what string, got, want []V) {
	t.Helper()
	if !slices.Equal(got, want) {
		t.Errorf("%s: %s; want %s", what, lines(got), lines(want))
	}
}

func lines[V any](l []V) string {
	var parts []string
	for _, x := range l {
		parts = append(parts, short(x))
	}
	return "[" + strings.Join(parts, ", ") + "]"
}

// short is an item, its keys told as a number, a kind, and a rest without noughts at its end.
func short(x any) string {
	switch x := x.(type) {
	case api.Change:
		return fmt.Sprintf("%s=%.80q gone %v", shortKey(x.Key), x.Value, x.Gone)
	case api.Pair:
		return fmt.Sprintf("%s=%.80q", shortKey(x.Key), x.Value)
	case api.Span:
		return fmt.Sprintf("%s to %s %v", shortKey(x.From), shortKey(x.To), x.End)
	}
	return fmt.Sprintf("%q", x)
}

func shortKey(k api.Key) string {
	rest := strings.TrimLeft(strings.TrimRight(string(k[5:]), "\x00"), "\x00")
	return fmt.Sprintf("%x.%d.%q", k[:4], k[4], rest)
}

// err asks for just this error.
func err(t *testing.T, what string, got, want api.Errno) {
	t.Helper()
	if got != want {
		t.Errorf("%s: %v; want %v", what, got, want)
	}
}

// does asks for just this reply to an op, and whether an inode was made.
func does(t *testing.T, v *view.View, next int, o api.Op, want api.Reply, wantMade bool) {
	t.Helper()
	if got, made := fsops.Do(v, next, o); !alike(got, want) || made != wantMade {
		t.Errorf("%s with next %d: %s, %v; want %s, %v", tell(o), next, told(got), made, told(want), wantMade)
	}
}

// refused asks for just this error of an op, and for the changes to be as they were.
func refused(t *testing.T, v *view.View, next int, o api.Op, want api.Errno) {
	t.Helper()
	was := v.Changes()
	does(t, v, next, o, api.Reply{Err: want}, false)
	is(t, "Changes behind "+tell(o), v.Changes(), was)
}

// touched asks for just these Reads and Changes.
func touched(t *testing.T, what string, v *view.View, r []api.Span, c []api.Change) {
	t.Helper()
	is(t, what+": Reads", v.Reads(), r)
	is(t, what+": Changes", v.Changes(), c)
}

// holds asks Check for OK.
func holds(t *testing.T, what string, v *view.View) {
	t.Helper()
	err(t, what+": Check", fsops.Check(v), api.OK)
}

// all is all pairs that a view has. It is asked of a view above it, but the base's are read.
func all(t *testing.T, v *view.View) []api.Pair {
	t.Helper()
	l, e := v.Scan(api.Span{End: true})
	err(t, "Scan", e, api.OK)
	return l
}

// doer is whatever ops are done on.
type doer interface{ Do(o api.Op) api.Reply }

// system is a view, and the number of the inode that is made next.
type system struct {
	v    *view.View
	next int
}

// fresh is a fresh file system.
func fresh(t *testing.T) *system {
	t.Helper()
	s := &system{view.New(nil), 2}
	err(t, "Fresh", fsops.Fresh(s.v), api.OK)
	return s
}

func (s *system) Do(o api.Op) api.Reply {
	r, made := fsops.Do(s.v, s.next, o)
	if made {
		s.next++
	}
	return r
}

// done asks for ops to be done, and no more to be told.
func (s *system) done(t *testing.T, l ...api.Op) {
	t.Helper()
	for _, o := range l {
		s.replies(t, o, api.Reply{})
	}
}

// replies asks for just this reply.
func (s *system) replies(t *testing.T, o api.Op, want api.Reply) {
	t.Helper()
	if got := s.Do(o); !alike(got, want) {
		t.Errorf("%s: %s; want %s", tell(o), told(got), told(want))
	}
}

// whole tells all of a file system that paths lead to.
func whole(d doer) string {
	var b strings.Builder
	below(d, "/", &b)
	return b.String()
}

func below(d doer, path string, b *strings.Builder) {
	s := d.Do(stat(path))
	fmt.Fprintf(b, "%q %v %v", path, s.Err, s.Stat)
	for off := 0; off < s.Stat.Size; off += once {
		if data := d.Do(read(path, off, once)).Data; strings.Trim(data, "\x00") != "" {
			fmt.Fprintf(b, " %d %q", off, data)
		}
	}
	b.WriteString("\n")
	for _, n := range d.Do(list(path)).Names {
		below(d, strings.TrimSuffix(path, "/")+"/"+n, b)
	}
}

// dice is numbers that look thrown, the same ones each time.
type dice uint32

func (d *dice) below(n int) int {
	*d = *d*1664525 + 1013904223
	return int(uint32(*d)>>8) % n
}

func thrown[T any](d *dice, l ...T) T { return l[d.below(len(l))] }
