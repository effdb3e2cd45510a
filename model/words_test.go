package model_test

import (
	"fmt"
	"slices"
	"strings"
	"testing"

	"wainscot/api"
	"wainscot/model"
	"wainscot/name"
)

const (
	most = 1 << 20   // bytes of a file
	huge = 1<<63 - 1 // the greatest number
	tiny = -1 << 63  // the least one
	once = 4096      // bytes that are read or written at once
)

func stat(path string) api.Op   { return api.Op{Kind: api.OpStat, Path: path} }
func list(path string) api.Op   { return api.Op{Kind: api.OpList, Path: path} }
func create(path string) api.Op { return api.Op{Kind: api.OpCreate, Path: path} }
func mkdir(path string) api.Op  { return api.Op{Kind: api.OpMkdir, Path: path} }
func unlink(path string) api.Op { return api.Op{Kind: api.OpUnlink, Path: path} }
func rmdir(path string) api.Op  { return api.Op{Kind: api.OpRmdir, Path: path} }

func read(path string, off, n int) api.Op {
	return api.Op{Kind: api.OpRead, Path: path, Off: off, N: n}
}
func write(path string, off int, data string) api.Op {
	return api.Op{Kind: api.OpWrite, Path: path, Off: off, Data: data}
}
func truncate(path string, n int) api.Op {
	return api.Op{Kind: api.OpTruncate, Path: path, N: n}
}
func link(path, to string) api.Op   { return api.Op{Kind: api.OpLink, Path: path, To: to} }
func rename(path, to string) api.Op { return api.Op{Kind: api.OpRename, Path: path, To: to} }

func ops(l ...api.Op) []api.Op      { return l }
func texts(l ...string) []string    { return l }
func noughts(n int) string          { return strings.Repeat("\x00", n) }
func many(n int) string             { return strings.Repeat("x", n) }
func dirStat() api.Stat             { return api.Stat{Dir: true} }
func file(links, size int) api.Stat { return api.Stat{Links: links, Size: size} }

// tell is an op, short.
func tell(o api.Op) string {
	return fmt.Sprintf("{%d %.60q %.60q Off %d N %d, %d bytes %.20q}", o.Kind, o.Path, o.To, o.Off, o.N, len(o.Data), o.Data)
}

// told is a reply, short.
func told(r api.Reply) string {
	return fmt.Sprintf("{%v, %d bytes %.40q, %.200q, %v}", r.Err, len(r.Data), r.Data, r.Names, r.Stat)
}

// alike tells whether two replies are the same; no names may be told in two ways.
func alike(a, b api.Reply) bool {
	return a.Err == b.Err && a.Data == b.Data && a.Stat == b.Stat && slices.Equal(a.Names, b.Names)
}

// replies asks for just this reply to an op.
func replies(t *testing.T, m *model.Model, o api.Op, want api.Reply) {
	t.Helper()
	if got := m.Do(o); !alike(got, want) {
		t.Errorf("%s: %s; want %s", tell(o), told(got), told(want))
	}
}

// done asks for ops to be done, and no more to be told.
func done(t *testing.T, m *model.Model, l ...api.Op) {
	t.Helper()
	for _, o := range l {
		replies(t, m, o, api.Reply{})
	}
}

// refused asks for just this error, and for everything to be as it was.
func refused(t *testing.T, m *model.Model, o api.Op, want api.Errno) {
	t.Helper()
	was := whole(m)
	replies(t, m, o, api.Reply{Err: want})
	is(t, "behind "+tell(o), m, was)
}

// stats asks for what is told of a path.
func stats(t *testing.T, m *model.Model, path string, want api.Stat) {
	t.Helper()
	replies(t, m, stat(path), api.Reply{Stat: want})
}

// lacks asks for paths that name nothing.
func lacks(t *testing.T, m *model.Model, paths ...string) {
	t.Helper()
	for _, p := range paths {
		replies(t, m, stat(p), api.Reply{Err: api.ENone})
	}
}

// lists asks for just these names of a directory.
func lists(t *testing.T, m *model.Model, path string, want ...string) {
	t.Helper()
	replies(t, m, list(path), api.Reply{Names: want})
}

// reads asks for just these bytes of a file, of at most MostData, and for no more of them.
func reads(t *testing.T, m *model.Model, path, want string) {
	t.Helper()
	replies(t, m, read(path, 0, once), api.Reply{Data: want})
	s := m.Do(stat(path)).Stat
	if s.Size != len(want) {
		t.Errorf("%s has %d bytes; want %d", path, s.Size, len(want))
	}
}

// made is a model in which these ops are done.
func made(t *testing.T, l ...api.Op) *model.Model {
	t.Helper()
	m := model.New()
	done(t, m, l...)
	return m
}

// yard is a file system with something of each kind: files with one link and two, with and without bytes, directories with entries and without.
func yard(t *testing.T) *model.Model {
	t.Helper()
	return made(t, mkdir("/d"), create("/d/f"), write("/d/f", 0, "hello"), mkdir("/d/e"), mkdir("/d/k"), create("/d/k/x"),
		create("/f"), write("/f", 3, "abc"), link("/f", "/d/l"), create("/o"), mkdir("/e"))
}

// doer is whatever ops are done on.
type doer interface{ Do(o api.Op) api.Reply }

// whole tells all of a file system that paths lead to.
func whole(d doer) string {
	var b strings.Builder
	below(d, "/", &b)
	return b.String()
}

func below(d doer, path string, b *strings.Builder) {
	s := d.Do(stat(path))
	fmt.Fprintf(b, "%q %v %v", path, s.Err, s.Stat)
	for off := 0; off < s.Stat.Size; off += once {
		if data := d.Do(read(path, off, once)).Data; strings.Trim(data, "\x00") != "" {
			fmt.Fprintf(b, " %d %q", off, data)
		}
	}
	b.WriteString("\n")
	for _, n := range d.Do(list(path)).Names {
		below(d, strings.TrimSuffix(path, "/")+"/"+n, b)
	}
}

// is asks for a file system to be just so.
func is(t *testing.T, what string, d doer, want string) {
	t.Helper()
	if got := whole(d); got != want {
		t.Errorf("%s: there is\n%.2000swant\n%.2000s", what, got, want)
	}
}

// plain is a file system by the chapter's plain words: what each path names.
type plain map[string]*thing

// thing is an inode; how many links it has is counted when it is asked for.
type thing struct {
	dir  bool
	data string
}

func newPlain() plain { return plain{"/": {dir: true}} }

func (p plain) clone() plain {
	c, new := plain{}, map[*thing]*thing{}
	for path, x := range p {
		if new[x] == nil {
			new[x] = &thing{dir: x.dir, data: x.data}
		}
		c[path] = new[x]
	}
	return c
}

func (x *thing) isDir() bool  { return x != nil && x.dir }
func (x *thing) isFile() bool { return x != nil && !x.dir }

// names is those of a directory's entries.
func (p plain) names(dir string) []string {
	var l []string
	for path := range p {
		n, ok := strings.CutPrefix(path, strings.TrimSuffix(dir, "/")+"/")
		if ok && n != "" && !strings.Contains(n, "/") {
			l = append(l, n)
		}
	}
	slices.Sort(l)
	return l
}

func (p plain) links(x *thing) int {
	n := 0
	for _, y := range p {
		if x == y {
			n++
		}
	}
	return n
}

// walking is the error of it.
func (p plain) walking(path string) api.Errno {
	for i := range path {
		if i > 0 && path[i] == '/' {
			switch x := p[path[:i]]; {
			case x == nil:
				return api.ENone
			case !x.dir:
				return api.ENotDir
			}
		}
	}
	return api.OK
}

// when is an error that applies or not.
func when(applies bool, err api.Errno) api.Errno {
	if applies {
		return err
	}
	return api.OK
}

// first is the first one that applies.
func first(l ...api.Errno) api.Errno {
	for _, err := range l {
		if err != api.OK {
			return err
		}
	}
	return api.OK
}

func noPath(text string) api.Errno {
	_, ok := name.Split(text)
	return when(!ok, api.EArg)
}

// wrong is the error of an op, row by row.
func (p plain) wrong(o api.Op) api.Errno {
	x, y := p[o.Path], p[o.To]
	path, none, isDir := noPath(o.Path), when(x == nil, api.ENone), when(x.isDir(), api.EIsDir)
	both := first(path, noPath(o.To), when(o.Path == "/" || o.To == "/", api.EArg), p.walking(o.Path), none)
	full := api.ENotEmpty
	switch o.Kind {
	case api.OpStat:
		return first(path, p.walking(o.Path), none)
	case api.OpList:
		return first(path, p.walking(o.Path), none, when(x.isFile(), api.ENotDir))
	case api.OpRead:
		return first(path, when(o.Off < 0 || o.N < 0, api.EArg), when(o.N > 4096, api.ETooBig), p.walking(o.Path), none, isDir)
	case api.OpWrite:
		big := len(o.Data) > 4096 || o.Off > 1<<20 || o.Off+len(o.Data) > 1<<20
		return first(path, when(o.Off < 0, api.EArg), when(big, api.ETooBig), p.walking(o.Path), none, isDir)
	case api.OpCreate, api.OpMkdir:
		return first(path, p.walking(o.Path), when(x != nil, api.EExist))
	case api.OpUnlink:
		return first(path, p.walking(o.Path), none, isDir)
	case api.OpRmdir:
		return first(path, when(o.Path == "/", api.EArg), p.walking(o.Path), none, when(x.isFile(), api.ENotDir), when(len(p.names(o.Path)) > 0, full))
	case api.OpTruncate:
		return first(path, when(o.N < 0, api.EArg), when(o.N > 1<<20, api.ETooBig), p.walking(o.Path), none, isDir)
	case api.OpLink:
		return first(both, isDir, p.walking(o.To), when(y != nil, api.EExist), when(p.links(x) == 65535, api.ETooBig))
	case api.OpRename:
		return first(both, p.walking(o.To), when(x.isDir() && strings.HasPrefix(o.To, o.Path+"/"), api.EArg), when(x != y, first(
			when(x.isFile() && y.isDir(), api.EIsDir), when(x.isDir() && y.isFile(), api.ENotDir), when(y.isDir() && len(p.names(o.To)) > 0, full))))
	}
	return api.EArg
}

// Do is what the chapter says of an op.
func (p plain) Do(o api.Op) (r api.Reply) {
	if err := p.wrong(o); err != api.OK {
		return api.Reply{Err: err}
	}
	x := p[o.Path]
	switch o.Kind {
	case api.OpStat:
		r.Stat.Dir = x.dir
		if !x.dir {
			r.Stat = file(p.links(x), len(x.data))
		}
	case api.OpList:
		r.Names = p.names(o.Path)
	case api.OpRead:
		from := min(o.Off, len(x.data))
		r.Data = x.data[from:min(from+o.N, len(x.data))]
	default:
		p.change(o)
	}
	return r
}

// change does what an op changes.
func (p plain) change(o api.Op) {
	x := p[o.Path]
	switch o.Kind {
	case api.OpWrite:
		if o.Data != "" {
			end := o.Off + len(o.Data)
			x.data = (x.data + noughts(max(0, o.Off-len(x.data))))[:o.Off] + o.Data + x.data[min(end, len(x.data)):]
		}
	case api.OpTruncate:
		x.data = (x.data + noughts(max(0, o.N-len(x.data))))[:o.N]
	case api.OpCreate, api.OpMkdir:
		p[o.Path] = &thing{dir: o.Kind == api.OpMkdir}
	case api.OpUnlink, api.OpRmdir:
		delete(p, o.Path)
	case api.OpLink:
		p[o.To] = x
	case api.OpRename:
		if x != p[o.To] {
			p.move(o.Path, o.To)
		}
	}
}

// move lets what is named by a path, and below it, be named anew.
func (p plain) move(from, to string) {
	moved := plain{}
	for path, x := range p {
		if path == from || strings.HasPrefix(path, from+"/") {
			moved[to+strings.TrimPrefix(path, from)] = x
			delete(p, path)
		}
	}
	for path, x := range moved {
		p[path] = x
	}
}
