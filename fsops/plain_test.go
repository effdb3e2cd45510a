package fsops_test

import (
	"slices"
	"strings"
	"unicode/utf8"

	"wainscot/api"
	"wainscot/span"
)

// set is the clean list of spans, which is layer 8's.
func set(l []api.Span) []api.Span { return span.Clean(l) }

// plain is the inodes of a map by the chapter's plain words, and what is asked of them.
type plain struct {
	things map[int]*thing
	asked  []api.Span
}

// thing is an inode as its pairs tell it.
type thing struct {
	dir         bool
	links, size int
	entries     map[string]int
	values      map[int]string // of its chunks, by their places
}

func number(s string) int {
	n := 0
	for _, b := range []byte(s) {
		n = n<<8 | int(b)
	}
	return n
}

func isNumber(n int) bool { return n >= 1 && n <= lastIno }

func isName(s string) bool {
	if s == "" || len(s) > 18 || s == "." || s == ".." || !utf8.ValidString(s) {
		return false
	}
	return !strings.ContainsFunc(s, func(r rune) bool { return r == '/' || r < 32 || r == 127 })
}

func isPath(s string) bool {
	if s == "/" {
		return true
	}
	names := strings.Split(s, "/")
	return len(s) <= 200 && names[0] == "" && len(names) > 1 && !slices.ContainsFunc(names[1:], func(n string) bool { return !isName(n) })
}

// read takes a pair in, in whatever order they come; it tells whether it is one of those that there may be, by itself.
func (p *plain) read(x api.Pair) bool {
	ino, kind, rest := number(string(x.Key[:4])), int(x.Key[4]), string(x.Key[5:])
	if !isNumber(ino) {
		return false
	}
	y := p.thing(ino)
	switch kind {
	case 1:
		dir, file := x.Value == "\x01", len(x.Value) == 9 && x.Value[0] == 2
		y.dir = dir
		if file {
			y.links, y.size = number(x.Value[1:5]), number(x.Value[5:])
		}
		return rest == noughts(19) && (dir || file && y.links >= 1 && y.links <= most64K && y.size <= most)
	case 2:
		name := strings.TrimRight(rest[:18], "\x00")
		y.entries[name] = number(x.Value)
		return isName(name) && len(name) == int(rest[18]) && !strings.Contains(name, "\x00") && len(x.Value) == 4 && isNumber(number(x.Value))
	case 3:
		y.values[number(rest[15:])] = x.Value
		return rest[:15] == noughts(15) && len(x.Value) >= 1 && len(x.Value) <= 32 && x.Value[len(x.Value)-1] != 0
	}
	return false
}

func (p *plain) thing(ino int) *thing {
	if p.things[ino] == nil {
		p.things[ino] = &thing{entries: map[string]int{}, values: map[int]string{}}
	}
	return p.things[ino]
}

// plainOf is what a map has, and whether each pair may be there by itself.
func plainOf(l []api.Pair) (*plain, bool) {
	p, ok := &plain{things: map[int]*thing{}}, true
	for _, x := range l {
		ok = p.read(x) && ok
	}
	return p, ok
}

// told is how many entries tell a number.
func (p *plain) told(ino int) int {
	n := 0
	for _, x := range p.things {
		for _, y := range x.entries {
			if y == ino {
				n++
			}
		}
	}
	return n
}

// above is the directories from which a way leads down to an inode, in so many steps.
func (p *plain) above(ino, steps int) bool {
	for from, x := range p.things {
		for _, y := range x.entries {
			if y == ino && (steps == 0 || p.above(from, steps-1)) {
				return true
			}
		}
	}
	return false
}

// isFileSystem is the chapter's words of what it is that a map holds one, clause by clause.
func isFileSystem(l []api.Pair) bool {
	p, ok := plainOf(l)
	root := p.things[1]
	if !ok || root == nil || !root.dir {
		return false
	}
	for ino, x := range p.things {
		isFile := x.links > 0
		if !x.dir && !isFile { // pairs, but no inode
			return false
		}
		for _, y := range x.entries {
			if z := p.things[y]; z == nil || !z.dir && z.links == 0 {
				return false
			}
		}
		if x.dir && (len(x.values) > 0 || ino != 1 && p.told(ino) != 1 || ino == 1 && p.told(1) > 0) {
			return false
		}
		if isFile && (len(x.entries) > 0 || p.told(ino) != x.links) {
			return false
		}
		for place, v := range x.values {
			if place*32+len(v) > x.size {
				return false
			}
		}
		// Who can go up so many steps goes in a ring.
		if x.dir && p.above(ino, len(p.things)) {
			return false
		}
	}
	return true
}

// What is asked of a file system that a map holds.
func (p *plain) inode(ino int) *thing {
	p.asked = append(p.asked, oneInode(ino))
	return p.things[ino]
}

func (p *plain) entry(dir int, name string) int {
	p.asked = append(p.asked, oneEntry(dir, name))
	return p.things[dir].entries[name]
}

func (p *plain) span(s api.Span) { p.asked = append(p.asked, s) }

// way walks a path; it tells the directory and the name of its entry, and whether it leads there.
func (p *plain) way(path string) (int, string, bool) {
	names := strings.Split(path, "/")[1:]
	at := 1
	for i, n := range names {
		if !p.inode(at).dir {
			return 0, "", false
		}
		if i == len(names)-1 {
			return at, n, true
		}
		if at = p.entry(at, n); at == 0 {
			return 0, "", false
		}
	}
	return 0, "", false
}

// names is the number that a path names; 0, if none.
func (p *plain) names(path string) int {
	if path == "/" {
		return 1
	}
	dir, name, ok := p.way(path)
	if !ok {
		return 0
	}
	return p.entry(dir, name)
}

// readsNothing tells whether an op is answered by itself.
func readsNothing(o api.Op) bool {
	two := o.Kind == api.OpRename || o.Kind == api.OpLink
	switch {
	case o.Kind < 1 || o.Kind > 11 || !isPath(o.Path) || two && !isPath(o.To):
		return true
	case o.Kind == api.OpRead:
		return o.Off < 0 || o.N < 0 || o.N > 4096
	case o.Kind == api.OpWrite:
		return o.Off < 0 || len(o.Data) > 4096 || o.Off > 1<<20 || o.Off+len(o.Data) > 1<<20
	case o.Kind == api.OpTruncate:
		return o.N < 0 || o.N > 1<<20
	}
	return o.Path == "/" && o.Kind > api.OpWrite || two && o.To == "/"
}

// reads is the set of what an op reads of a map that holds a file system.
func reads(l []api.Pair, o api.Op) []api.Span {
	p, _ := plainOf(l)
	if readsNothing(o) {
		return nil
	}
	if ino := p.names(o.Path); ino != 0 && o.Kind == api.OpRename {
		p.rename(o, ino)
	} else if ino != 0 && o.Kind != api.OpCreate && o.Kind != api.OpMkdir {
		p.one(o, ino, p.inode(ino))
	}
	return set(p.asked)
}

// one is what is read of what the Path names.
func (p *plain) one(o api.Op, ino int, x *thing) {
	isFile, end := !x.dir, o.Off+len(o.Data)
	switch {
	case x.dir && (o.Kind == api.OpList || o.Kind == api.OpRmdir):
		p.span(entries(ino))
	case isFile && o.Kind == api.OpRead && o.N > 0 && o.Off < x.size:
		p.span(chunks(ino, o.Off/32, (min(o.Off+o.N, x.size)-1)/32))
	case isFile && o.Kind == api.OpWrite && o.Data != "":
		for place := o.Off / 32; place*32 < end; place++ {
			if o.Off > place*32 || end < place*32+32 {
				p.span(chunks(ino, place, place))
			}
		}
	case isFile && o.Kind == api.OpTruncate && o.N < x.size:
		p.span(chunksOn(ino, o.N/32))
	case isFile && o.Kind == api.OpUnlink:
		p.last(ino, x)
	case isFile && o.Kind == api.OpLink:
		p.names(o.To)
	}
}

// last is what is read of a file that has a link less.
func (p *plain) last(ino int, x *thing) {
	if x.links == 1 && x.size > 0 {
		p.span(chunksOn(ino, 0))
	}
}

func (p *plain) rename(o api.Op, ino int) {
	dir, name, ok := p.way(o.To)
	if !ok {
		return
	}
	x := p.inode(ino)
	if strings.HasPrefix(o.To, o.Path+"/") {
		return
	}
	old := p.entry(dir, name)
	if old == 0 || old == ino {
		return
	}
	y := p.inode(old)
	switch {
	case x.dir && y.dir:
		p.span(entries(old))
	case !x.dir && !y.dir:
		p.last(old, y)
	}
}
