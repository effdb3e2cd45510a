package pack_test

import (
	"math"
	"strings"
	"testing"

	"wainscot/pack"
)

// left asks a reader that is not wrong how many bytes are left.
func left(t *testing.T, r *pack.Reader, n int) {
	t.Helper()
	if r.Wrong() || r.Left() != n {
		t.Errorf("Wrong %v, Left %d; want false, %d", r.Wrong(), r.Left(), n)
	}
}

// tellsZero asks a wrong reader everything: each call tells zero, and it stays wrong.
func tellsZero(t *testing.T, r *pack.Reader) {
	t.Helper()
	for range 2 {
		if !r.Wrong() {
			t.Error("not wrong")
		}
		if n := r.Left(); n != 0 {
			t.Error("Left", n)
		}
		if r.Noughts() {
			t.Error("Noughts")
		}
		if v := r.Byte(); v != 0 {
			t.Error("Byte", v)
		}
		if v := r.Word(); v != 0 {
			t.Error("Word", v)
		}
		if v := r.Long(); v != 0 {
			t.Error("Long", v)
		}
		if s := r.Text(); s != "" {
			t.Errorf("Text %q", s)
		}
		for _, n := range []int{math.MinInt, -1, 0, 1, math.MaxInt} {
			if s := r.Raw(n); s != "" {
				t.Errorf("Raw %d: %q", n, s)
			}
		}
	}
}

type read struct {
	name  string
	bytes string
	do    func(r *pack.Reader) any
	want  any
	zero  any
}

func reads() []read {
	one := func(r *pack.Reader) any { return r.Byte() }
	four := func(r *pack.Reader) any { return r.Word() }
	eight := func(r *pack.Reader) any { return r.Long() }
	text := func(r *pack.Reader) any { return r.Text() }
	raw := func(n int) func(r *pack.Reader) any {
		return func(r *pack.Reader) any { return r.Raw(n) }
	}
	x := strings.Repeat("x", 255)
	return []read{
		{"Byte 0", "\x00", one, 0, 0},
		{"Byte 128", "\x80", one, 128, 0},
		{"Byte 255", "\xff", one, 255, 0},
		{"Word 0", "\x00\x00\x00\x00", four, 0, 0},
		{"Word 0x01020304", "\x01\x02\x03\x04", four, 0x01020304, 0},
		{"Word 2^31", "\x80\x00\x00\x00", four, 1 << 31, 0},
		{"Word 2^32 - 1", "\xff\xff\xff\xff", four, 1<<32 - 1, 0},
		{"Long 0", "\x00\x00\x00\x00\x00\x00\x00\x00", eight, uint64(0), uint64(0)},
		{"Long 0x0102030405060708", "\x01\x02\x03\x04\x05\x06\x07\x08", eight, uint64(0x0102030405060708), uint64(0)},
		{"Long 2^63", "\x80\x00\x00\x00\x00\x00\x00\x00", eight, uint64(1) << 63, uint64(0)},
		{"Long 2^64 - 1", "\xff\xff\xff\xff\xff\xff\xff\xff", eight, uint64(math.MaxUint64), uint64(0)},
		{"Text of none", "\x00", text, "", ""},
		{"Text ab", "\x02ab", text, "ab", ""},
		{"Text of any bytes", "\x03\x00\xff\xc3", text, "\x00\xff\xc3", ""},
		{"Text of 255", "\xff" + x, text, x, ""},
		{"Raw 0", "", raw(0), "", ""},
		{"Raw 1", "\x00", raw(1), "\x00", ""},
		{"Raw 3", "a\xffc", raw(3), "a\xffc", ""},
		{"Raw 255", x, raw(255), x, ""},
	}
}

// TestReaderFields (A2): each field is read, alone and behind others, and just its bytes are; with fewer bytes it is wrong.
func TestReaderFields(t *testing.T) {
	for _, f := range reads() {
		t.Run(f.name, func(t *testing.T) {
			r := pack.Read([]byte(f.bytes))
			left(t, r, len(f.bytes))
			if v := f.do(r); v != f.want {
				t.Errorf("%#v; want %#v", v, f.want)
			}
			left(t, r, 0)

			r = pack.Read([]byte("ab" + f.bytes + "cde"))
			if s := r.Raw(2); s != "ab" {
				t.Errorf("%q", s)
			}
			if v := f.do(r); v != f.want {
				t.Errorf("%#v; want %#v", v, f.want)
			}
			left(t, r, 3)
			if s := r.Raw(3); s != "cde" {
				t.Errorf("%q", s)
			}
			left(t, r, 0)

			for n := range len(f.bytes) {
				r = pack.Read([]byte("ab" + f.bytes[:n]))
				r.Raw(2)
				if v := f.do(r); v != f.zero {
					t.Errorf("of %d bytes: %#v", n, v)
				}
				tellsZero(t, r)
			}
		})
	}
}

// TestReaderWrong (A2): bytes that are there are not read any more, once a reader is wrong.
func TestReaderWrong(t *testing.T) {
	for name, spoil := range map[string]func(r *pack.Reader) bool{
		"Word of three":       func(r *pack.Reader) bool { r.Raw(3); return r.Word() == 0 },
		"Long of six":         func(r *pack.Reader) bool { return r.Long() == 0 },
		"Text of 7":           func(r *pack.Reader) bool { return r.Text() == "" },
		"Raw -1":              func(r *pack.Reader) bool { return r.Raw(-1) == "" },
		"Raw of the least":    func(r *pack.Reader) bool { return r.Raw(math.MinInt) == "" },
		"Raw of one more":     func(r *pack.Reader) bool { return r.Raw(7) == "" },
		"Raw of the greatest": func(r *pack.Reader) bool { return r.Raw(math.MaxInt) == "" },
		"Raw -1 at the end":   func(r *pack.Reader) bool { r.Raw(6); return r.Raw(-1) == "" },
		"Byte at the end":     func(r *pack.Reader) bool { r.Raw(6); return r.Byte() == 0 },
		"Text at the end":     func(r *pack.Reader) bool { r.Raw(6); return r.Text() == "" },
	} {
		t.Run(name, func(t *testing.T) {
			r := pack.Read([]byte{7, 1, 2, 3, 4, 5})
			if !spoil(r) {
				t.Error("told what is not there")
			}
			tellsZero(t, r)
		})
	}
}

// TestReaderEmpty (A2): of no bytes nothing is left, and all of them are noughts.
func TestReaderEmpty(t *testing.T) {
	for _, b := range [][]byte{nil, {}} {
		r := pack.Read(b)
		left(t, r, 0)
		if !r.Noughts() || r.Raw(0) != "" {
			t.Error("none")
		}
		left(t, r, 0)
		r.Byte()
		tellsZero(t, r)
	}
}

// TestNoughts (A2): all bytes that are left count, none other, and none is read.
func TestNoughts(t *testing.T) {
	for at := range 6 {
		b := make([]byte, 6)
		b[at] = 1
		r := pack.Read(b)
		for i := range 7 {
			if r.Noughts() != (i > at) {
				t.Errorf("a 1 at %d, asked at %d: %v", at, i, r.Noughts())
			}
			left(t, r, 6-i)
			if i < 6 && r.Byte() != int(b[i]) {
				t.Error("Noughts has read")
			}
		}
	}
	for v := range 256 {
		if pack.Read([]byte{0, byte(v), 0}).Noughts() != (v == 0) {
			t.Error("byte", v)
		}
	}
}

// TestReaderApart (R1, R3): what is handed in may be written over, and two readers of the same bytes have nothing to do with each other.
func TestReaderApart(t *testing.T) {
	b := []byte("abcdef")
	r, x := pack.Read(b), pack.Read(b)
	r.Raw(2)
	b[2] = 'X'
	_ = append(b[:3], "YZ"...)
	if s := r.Raw(4); s != "cdef" {
		t.Errorf("%q", s)
	}
	r.Byte()
	tellsZero(t, r)
	left(t, x, 6)
	if s := x.Raw(6); s != "abcdef" {
		t.Errorf("%q", s)
	}
	if string(b) != "abXYZf" {
		t.Error("the argument was changed", string(b))
	}
}

// TestThereAndBack (A1, A2): what was written is read, one behind the other.
func TestThereAndBack(t *testing.T) {
	for n := range 256 {
		text := strings.Repeat("\x00t\xff", 85)[:n]
		word := n * 0x01010101
		long := uint64(n) * 0x0101010101010101
		w := pack.New(2000)
		w.Long(long)
		w.Text(text)
		w.Byte(n)
		w.Raw(text)
		w.Word(word)
		w.Fill(2000)
		b, ok := w.Done()
		if !ok || len(b) != 2000 {
			t.Fatal(n, len(b), ok)
		}
		r := pack.Read(b)
		if v := r.Long(); v != long {
			t.Error("Long", n, v)
		}
		if s := r.Text(); s != text {
			t.Errorf("Text %d: %q", n, s)
		}
		if v := r.Byte(); v != n {
			t.Error("Byte", n, v)
		}
		if s := r.Raw(n); s != text {
			t.Errorf("Raw %d: %q", n, s)
		}
		if v := r.Word(); v != word {
			t.Error("Word", n, v)
		}
		left(t, r, 2000-8-1-n-1-n-4)
		if !r.Noughts() {
			t.Error("Noughts", n)
		}
	}
}
