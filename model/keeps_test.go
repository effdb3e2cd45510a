package model_test

import (
	"fmt"
	"runtime"
	"testing"
	"unsafe"

	"wainscot/api"
	"wainscot/model"
)

// lent is a text whose bytes are somebody's who writes over them later on.
type lent struct{ bytes []byte }

func lend(s string) *lent        { return &lent{[]byte(s)} }
func (l *lent) text() string     { return unsafe.String(unsafe.SliceData(l.bytes), len(l.bytes)) }
func (l *lent) is(s string) bool { return string(l.bytes) == s }
func (l *lent) writeOver() {
	for i := range l.bytes {
		l.bytes[i] = '#'
	}
}

// TestNothingIsKept (R1): what was handed in stays as it was, and is not kept: paths and data that are written over change nothing within.
func TestNothingIsKept(t *testing.T) {
	m, own := model.New(), model.New()
	for _, o := range ops(mkdir("/dir"), create("/dir/file"), write("/dir/file", 0, "hello"), write("/dir/file", once, many(once)), write("/dir/file", 2*once, "x"), write("/dir/file", once-1, "ab"),
		create("/other"), link("/dir/file", "/linked"), rename("/other", "/dir/moved"), rename("/dir", "/renamed"), create("/one"), create("/two"), rename("/one", "/two"), unlink("/linked"),
		stat("/renamed/file"), list("/renamed"), read("/renamed/file", 0, 9), truncate("/renamed/file", 3), mkdir("/"), unlink("/none")) {
		path, to, data := lend(o.Path), lend(o.To), lend(o.Data)
		used := o
		used.Path, used.To, used.Data = path.text(), to.text(), data.text()
		got := m.Do(used)
		if !path.is(o.Path) || !to.is(o.To) || !data.is(o.Data) {
			t.Errorf("%s: what was handed in is changed", tell(o))
		}
		path.writeOver()
		to.writeOver()
		data.writeOver()
		if want := own.Do(o); !alike(got, want) {
			t.Errorf("%s: %s; want %s", tell(o), told(got), told(want))
		}
		is(t, "written over: "+tell(o), m, whole(own))
	}
}

// TestAnswersAreTheCallers (R1, R3): names that are written over, and what is put behind them, change nothing within, and no other answer; what was answered stays, whatever is done then.
func TestAnswersAreTheCallers(t *testing.T) {
	m := yard(t)
	a, b := m.Do(list("/d")).Names, m.Do(list("/d")).Names
	data := m.Do(read("/f", 0, 9)).Data
	a = a[:cap(a)]
	for i := range a {
		a[i] = "over"
	}
	_ = append(a[:1], "written")
	lists(t, m, "/d", b...)
	lists(t, m, "/d", "e", "f", "k", "l")
	done(t, m, rename("/d/e", "/d/z"), create("/d/a"), write("/f", 0, "over it"), truncate("/f", 1), unlink("/d/l"))
	if fmt.Sprint(b) != "[e f k l]" || data != "\x00\x00\x00abc" {
		t.Errorf("%q, %q: answers that have changed", b, data)
	}
}

// TestApart (R3): models have nothing to do with each other.
func TestApart(t *testing.T) {
	m, n := model.New(), model.New()
	done(t, m, create("/a"), write("/a", 0, "m"))
	lists(t, n, "/")
	done(t, n, mkdir("/a"), create("/a/b"), write("/a/b", 0, "n"))
	reads(t, m, "/a", "m")
	done(t, m, unlink("/a"))
	reads(t, n, "/a/b", "n")
}

// TestSameAgain (R4): the same ops have the same answers, on each model they are done on.
func TestSameAgain(t *testing.T) {
	tells := func() string {
		m, all := model.New(), ""
		d := dice(7)
		for range 400 {
			all += told(m.Do(d.op()))
		}
		return all + whole(m) + whole(m.Clone())
	}
	first := tells()
	for range 5 {
		if tells() != first {
			t.Error("other answers")
		}
	}
}

// TestManyFiles (O1): files that are almost all noughts take little room, though they are as long as they may be; there may be many of them, and clones.
func TestManyFiles(t *testing.T) {
	m := made(t, create("/f"), truncate("/f", most))
	path := func(i int) string { return fmt.Sprintf("/%d", i) }
	for i := range 20000 {
		done(t, m, create(path(i)), write(path(i), most-1, "x"), truncate(path(i), most-1), truncate(path(i), most))
	}
	c := m.Clone()
	for i := range 20000 {
		replies(t, c, read(path(i), most-9, 20), api.Reply{Data: noughts(9)})
	}
}

// heap is how many bytes are kept in all.
func heap() int {
	runtime.GC()
	var s runtime.MemStats
	runtime.ReadMemStats(&s)
	return int(s.HeapAlloc)
}

// TestGoneIsForgotten (OpUnlink, OpRmdir, OpRename, OpTruncate): of what is gone nothing is kept.
func TestGoneIsForgotten(t *testing.T) {
	m := made(t, create("/stays"))
	before := heap()
	for range 5000 {
		done(t, m, create("/f"), write("/f", 0, many(once)), unlink("/f"))
		done(t, m, create("/f"), write("/f", 0, many(once)), create("/g"), rename("/g", "/f"), unlink("/f"))
		done(t, m, mkdir("/d"), create("/d/f"), unlink("/d/f"), rmdir("/d"), mkdir("/d"), mkdir("/e"), rename("/d", "/e"), rmdir("/e"))
	}
	for i := range 16 {
		path := "/f" + many(i)
		done(t, m, create(path))
		for at := 0; at < most; at += once {
			done(t, m, write(path, at, many(once)))
		}
		done(t, m, truncate(path, i))
	}
	if kept := heap() - before; kept > 1<<20 {
		t.Errorf("%d bytes more are kept", kept)
	}
	reads(t, m, "/stays", "")
}
