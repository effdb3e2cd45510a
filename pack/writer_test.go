package pack_test

import (
	"math"
	"strings"
	"testing"

	"wainscot/pack"
)

// wrote asks for the bytes of a writer that is not wrong.
func wrote(t *testing.T, w *pack.Writer, want string) {
	t.Helper()
	if b, ok := w.Done(); !ok || string(b) != want {
		t.Errorf("Done: %x, %v; want %x", b, ok, want)
	}
}

// spoilt asks for nothing: the writer is wrong.
func spoilt(t *testing.T, w *pack.Writer) {
	t.Helper()
	if b, ok := w.Done(); ok || len(b) != 0 {
		t.Errorf("Done: %x, %v; want it wrong", b, ok)
	}
}

type write struct {
	name string
	do   func(w *pack.Writer)
	want string
}

// fields are writes that are right, wherever there is room.
func fields() []write {
	return []write{
		{"Byte 0", func(w *pack.Writer) { w.Byte(0) }, "\x00"},
		{"Byte 1", func(w *pack.Writer) { w.Byte(1) }, "\x01"},
		{"Byte 255", func(w *pack.Writer) { w.Byte(255) }, "\xff"},
		{"Word 0", func(w *pack.Writer) { w.Word(0) }, "\x00\x00\x00\x00"},
		{"Word 0x01020304", func(w *pack.Writer) { w.Word(0x01020304) }, "\x01\x02\x03\x04"},
		{"Word 2^31", func(w *pack.Writer) { w.Word(1 << 31) }, "\x80\x00\x00\x00"},
		{"Word 2^32 - 1", func(w *pack.Writer) { w.Word(1<<32 - 1) }, "\xff\xff\xff\xff"},
		{"Long 0", func(w *pack.Writer) { w.Long(0) }, "\x00\x00\x00\x00\x00\x00\x00\x00"},
		{"Long 0x0102030405060708", func(w *pack.Writer) { w.Long(0x0102030405060708) }, "\x01\x02\x03\x04\x05\x06\x07\x08"},
		{"Long 2^64 - 1", func(w *pack.Writer) { w.Long(math.MaxUint64) }, "\xff\xff\xff\xff\xff\xff\xff\xff"},
		{"Text of none", func(w *pack.Writer) { w.Text("") }, "\x00"},
		{"Text ab", func(w *pack.Writer) { w.Text("ab") }, "\x02ab"},
		{"Text of any bytes", func(w *pack.Writer) { w.Text("\x00\xff\xc3") }, "\x03\x00\xff\xc3"},
		{"Text of bytes, not of characters", func(w *pack.Writer) { w.Text("é") }, "\x02\xc3\xa9"},
		{"Text of 255", func(w *pack.Writer) { w.Text(strings.Repeat("x", 255)) }, "\xff" + strings.Repeat("x", 255)},
		{"Raw of none", func(w *pack.Writer) { w.Raw("") }, ""},
		{"Raw abc", func(w *pack.Writer) { w.Raw("abc") }, "abc"},
		{"Raw of any bytes", func(w *pack.Writer) { w.Raw("\x00\xff\xc3") }, "\x00\xff\xc3"},
		{"Raw of 300", func(w *pack.Writer) { w.Raw(strings.Repeat("y", 300)) }, strings.Repeat("y", 300)},
	}
}

// TestWriterFields (A1): each field has its bytes, alone and behind others, and needs just as much room as it has bytes.
func TestWriterFields(t *testing.T) {
	for _, f := range fields() {
		t.Run(f.name, func(t *testing.T) {
			w := pack.New(1000)
			f.do(w)
			wrote(t, w, f.want)

			w = pack.New(1000)
			w.Raw("ahead")
			f.do(w)
			w.Raw("behind")
			wrote(t, w, "ahead"+f.want+"behind")

			w = pack.New(2 + len(f.want))
			w.Raw("ab")
			f.do(w)
			wrote(t, w, "ab"+f.want)

			for room := range len(f.want) {
				w = pack.New(2 + room)
				w.Raw("ab")
				f.do(w)
				spoilt(t, w)
			}
		})
	}
}

// TestWriterWrong (A1): what is not what it must be makes a writer wrong, however much room there is; so it stays, whatever comes.
func TestWriterWrong(t *testing.T) {
	for _, f := range []write{
		{name: "Byte -1", do: func(w *pack.Writer) { w.Byte(-1) }},
		{name: "Byte 256", do: func(w *pack.Writer) { w.Byte(256) }},
		{name: "Byte least", do: func(w *pack.Writer) { w.Byte(math.MinInt) }},
		{name: "Byte greatest", do: func(w *pack.Writer) { w.Byte(math.MaxInt) }},
		{name: "Byte 2^32", do: func(w *pack.Writer) { w.Byte(1 << 32) }},
		{name: "Word -1", do: func(w *pack.Writer) { w.Word(-1) }},
		{name: "Word 2^32", do: func(w *pack.Writer) { w.Word(1 << 32) }},
		{name: "Word least", do: func(w *pack.Writer) { w.Word(math.MinInt) }},
		{name: "Word greatest", do: func(w *pack.Writer) { w.Word(math.MaxInt) }},
		{name: "Text of 256", do: func(w *pack.Writer) { w.Text(strings.Repeat("x", 256)) }},
		{name: "Text of 512", do: func(w *pack.Writer) { w.Text(strings.Repeat("x", 512)) }},
		{name: "Raw without room", do: func(w *pack.Writer) { w.Raw(strings.Repeat("x", 1001)) }},
		{name: "Fill to fewer", do: func(w *pack.Writer) { w.Fill(1) }},
		{name: "Fill to none", do: func(w *pack.Writer) { w.Fill(0) }},
		{name: "Fill to -1", do: func(w *pack.Writer) { w.Fill(-1) }},
		{name: "Fill to the least", do: func(w *pack.Writer) { w.Fill(math.MinInt) }},
		{name: "Fill above most", do: func(w *pack.Writer) { w.Fill(1001) }},
		{name: "Fill to the greatest", do: func(w *pack.Writer) { w.Fill(math.MaxInt) }},
	} {
		t.Run(f.name, func(t *testing.T) {
			w := pack.New(1000)
			w.Raw("ab")
			wrote(t, w, "ab")
			f.do(w)
			spoilt(t, w)
			for _, g := range fields() {
				g.do(w)
				spoilt(t, w)
			}
			for _, n := range []int{math.MinInt, -1, 0, 2, 5, 1000, 1001, math.MaxInt} {
				w.Fill(n)
				spoilt(t, w)
			}
			f.do(w)
			spoilt(t, w)
		})
	}
}

// TestWriterAllBytes (A1): a byte is written for each number from 0 to 255.
func TestWriterAllBytes(t *testing.T) {
	for v := -300; v <= 600; v++ {
		w := pack.New(1)
		w.Byte(v)
		if v < 0 || v > 255 {
			spoilt(t, w)
		} else {
			wrote(t, w, string([]byte{byte(v)}))
		}
	}
}

// TestWriterFill (A1): noughts up to n bytes, from as many as there are up to most.
func TestWriterFill(t *testing.T) {
	for have := range 5 {
		for n := -2; n <= 7; n++ {
			w := pack.New(5)
			w.Raw("abcd"[:have])
			w.Fill(n)
			if n < have || n > 5 {
				spoilt(t, w)
				continue
			}
			wrote(t, w, "abcd"[:have]+strings.Repeat("\x00", n-have))
			w.Fill(n)
			wrote(t, w, "abcd"[:have]+strings.Repeat("\x00", n-have))
			w.Fill(5)
			wrote(t, w, "abcd"[:have]+strings.Repeat("\x00", 5-have))
		}
	}
}

// TestWriterExample (A1): the chapter's example.
func TestWriterExample(t *testing.T) {
	w := pack.New(6)
	w.Byte(5)
	w.Text("ab")
	w.Fill(6)
	wrote(t, w, "\x05\x02\x61\x62\x00\x00")
}

// TestWriterMost (A1): most below 0 is 0; one that is full takes what has no bytes, and is not wrong for that.
func TestWriterMost(t *testing.T) {
	for _, most := range []int{0, -1, -1000, math.MinInt} {
		w := pack.New(most)
		wrote(t, w, "")
		w.Raw("")
		w.Fill(0)
		wrote(t, w, "")
		w.Text("")
		spoilt(t, w)

		w = pack.New(most)
		w.Byte(0)
		spoilt(t, w)

		w = pack.New(most)
		w.Fill(1)
		spoilt(t, w)

		w = pack.New(most)
		w.Fill(-1)
		spoilt(t, w)
	}
}

// TestWriterVast (A1, R2): as much room as there can be does no harm, nor does more than can be filled.
func TestWriterVast(t *testing.T) {
	for _, n := range []int{1 << 50, 1 << 62, math.MaxInt} {
		w := pack.New(math.MaxInt)
		w.Text("ab")
		w.Fill(5)
		wrote(t, w, "\x02ab\x00\x00")
		w.Fill(n)
		w.Byte(256)
		spoilt(t, w)
	}
}

// TestWriterApart (R1, R3): what Done answers is the caller's, and two writers have nothing to do with each other.
func TestWriterApart(t *testing.T) {
	w, x := pack.New(9), pack.New(9)
	w.Raw("abc")
	x.Raw("xyz")
	b, _ := w.Done()
	c, _ := w.Done()
	b[0], c[1] = '1', '2'
	_ = append(b, '3')
	wrote(t, w, "abc")
	w.Raw("d")
	wrote(t, w, "abcd")
	if string(b) != "1bc" || string(c) != "a2c" {
		t.Errorf("%q, %q", b, c)
	}
	x.Byte(-1)
	spoilt(t, x)
	wrote(t, w, "abcd")
}
