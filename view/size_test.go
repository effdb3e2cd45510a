package view_test

import (
	"testing"

	"wainscot/api"
	"wainscot/view"
)

// bare is a base without Len.
type bare struct{}

func (bare) Get(api.Key) (string, bool, api.Errno) { return "", false, api.OK }
func (bare) Scan(api.Span) ([]api.Pair, api.Errno) { return nil, api.OK }

// These have a call of that name.
type (
	counting struct {
		bare
		n int
	}
	countingByPointer struct{ bare }
	countingOtherwise struct{ bare }
	countingFrom      struct{ bare }
	countingTwice     struct{ bare }
	countingField     struct {
		bare
		Len int
	}
	wrapping struct{ *view.Plain }
)

func (c counting) Len() int              { return c.n }
func (c *countingByPointer) Len() int    { return 6 }
func (c countingOtherwise) Len() int64   { return 7 }
func (c countingFrom) Len(from int) int  { return 8 }
func (c countingTwice) Len() (int, bool) { return 9, true }

// TestSize (L4): what Len tells, of a base that has it.
func TestSize(t *testing.T) {
	long := view.New(nil)
	long.Put(k(1), "a")
	for _, c := range []struct {
		what string
		b    view.Base
		n    int
		ok   bool
	}{
		{"nil", nil, 0, false},
		{"a plain base", three(), 3, true},
		{"a plain base without pairs", view.NewPlain(nil), 0, true},
		{"a plain base of one key twice", view.NewPlain(pairs(p(1, "a"), p(1, "b"))), 1, true},
		{"a view", view.New(three()), 0, false},
		{"a view of nil", long, 0, false},
		{"a base without Len", bare{}, 0, false},
		{"a pointer to such", &bare{}, 0, false},
		{"a base with Len", counting{n: 5}, 5, true},
		{"a pointer to such", &counting{n: 5}, 5, true},
		{"a base whose Len tells less than none", counting{n: -1}, -1, true},
		{"a base whose pointer has Len", countingByPointer{}, 0, false},
		{"a pointer to such", &countingByPointer{}, 6, true},
		{"a base whose Len tells another type", countingOtherwise{}, 0, false},
		{"a base whose Len is handed something", countingFrom{}, 0, false},
		{"a base whose Len tells more", countingTwice{}, 0, false},
		{"a base with a field of that name", countingField{Len: 4}, 0, false},
		{"a base that has it from within", wrapping{three()}, 3, true},
	} {
		if n, ok := view.Size(c.b); n != c.n || ok != c.ok {
			t.Errorf("Size of %s: %d, %v; want %d, %v", c.what, n, ok, c.n, c.ok)
		}
	}
}

// These have one of a base's two calls, or both but otherwise.
type (
	getting   struct{}
	scanning  struct{}
	otherwise struct{ getting }
	counted   int
)

func (getting) Get(api.Key) (string, bool, api.Errno)    { return "", false, api.OK }
func (scanning) Scan(api.Span) ([]api.Pair, api.Errno)   { return nil, api.OK }
func (otherwise) Scan(*api.Span) ([]api.Pair, api.Errno) { return nil, api.OK }
func (counted) Len() int                                 { return 1 }

// TestAs (L4): x itself, if it has a base's two calls.
func TestAs(t *testing.T) {
	plain, v := three(), view.New(nil)
	b := bare{}
	for _, x := range []any{plain, v, b, &b, counting{n: 5}, wrapping{plain}, view.Base(plain), struct {
		getting
		scanning
	}{}} {
		got, ok := view.As(x)
		if !ok || any(got) != x {
			t.Errorf("As of %T: %v, %v", x, got, ok)
		}
	}
	has(t, as(t, plain), k(3), "c")
	if n, ok := view.Size(as(t, plain)); n != 3 || !ok {
		t.Errorf("Size: %d, %v", n, ok)
	}
	v.Put(k(1), "a")
	has(t, as(t, v), k(1), "a")

	var none view.Base
	for _, x := range []any{nil, none, "text", "", 0, 7, true, 1.5, api.OK, api.Key{}, api.Span{}, pairs(p(1, "a")), map[api.Key]string{}, []view.Base{plain}, &none,
		func() view.Base { return plain }, view.Plain{}, view.View{}, &plain, getting{}, scanning{}, otherwise{}, counted(3), struct{ view.Plain }{}, struct{}{}, error(api.EIO)} {
		if got, ok := view.As(x); ok || got != nil {
			t.Errorf("As of %T: %v, %v", x, got, ok)
		}
	}
}

// as is x as a base, which it is.
func as(t *testing.T, x any) view.Base {
	t.Helper()
	b, ok := view.As(x)
	if !ok {
		t.Fatalf("As of %T", x)
	}
	return b
}
