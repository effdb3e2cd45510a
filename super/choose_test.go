package super_test

import (
	"bytes"
	"slices"
	"testing"

	"wainscot/api"
	"wainscot/super"
)

// gen is few, with another generation, and with what tells it apart beside that.
func gen(n int) api.Super {
	s := few()
	s.Gen = n
	s.Next = 2 + n%1000
	return s
}

// TestChoose (D2): the valid one with the greater generation, each at its own place.
func TestChoose(t *testing.T) {
	two, four, most := raw(gen(2)), raw(gen(4)), raw(gen(1<<48-2))
	one, three, odd := raw(gen(1)), raw(gen(3)), raw(gen(1<<48-1))
	wrong := slices.Clone(three)
	wrong[300] = 1
	other := slices.Clone(four)
	other[511] = 2
	for i, x := range []struct {
		a, b []byte
		want int
	}{
		{two, one, 2}, {two, three, 3}, {four, one, 4}, {four, three, 4}, {four, odd, 1<<48 - 1}, {most, three, 1<<48 - 2}, {most, odd, 1<<48 - 1},
		{two, nil, 2}, {two, wrong, 2}, {two, three[:511], 2}, {two, append(slices.Clone(three), 0), 2}, {two, make([]byte, 512), 2},
		{nil, one, 1}, {other, one, 1}, {two[:511], one, 1}, {append(slices.Clone(two), 0), one, 1}, {make([]byte, 512), one, 1},
		{nil, nil, 0}, {other, wrong, 0}, {make([]byte, 512), make([]byte, 512), 0}, {[]byte{}, two[:1], 0},
		// Each at the other one's place, or both at one's.
		{one, two, 0}, {three, four, 0}, {three, nil, 0}, {nil, four, 0}, {odd, most, 0},
		{two, four, 2}, {four, two, 4}, {four, most, 4}, {one, three, 3}, {three, one, 1}, {odd, one, 1},
		{two, two, 2}, {one, one, 1},
	} {
		a, b := bytes.Clone(x.a), bytes.Clone(x.b)
		s, e := super.Choose(a, b)
		if x.want == 0 {
			isNone(t, s, e)
		} else {
			is(t, s, e, gen(x.want))
		}
		if !bytes.Equal(a, x.a) || !bytes.Equal(b, x.b) {
			t.Error("an argument was changed")
		}
		if t.Failed() {
			t.Fatalf("pair %d", i)
		}
		clear(a)
		clear(b)
		if x.want != 0 {
			is(t, s, e, gen(x.want))
		}
	}
}

// TestChooseWrongs (D2): what is not right does not count, however great its generation is.
func TestChooseWrongs(t *testing.T) {
	for _, n := range []int{0, 1 << 48, 1<<48 + 1, -2, -1} {
		for _, s := range []api.Super{gen(1), gen(2)} {
			w := gen(0)
			w.Gen = n
			pair := [2][]byte{raw(w), raw(w)}
			pair[s.Gen%2] = raw(s)
			x, e := super.Choose(pair[0], pair[1])
			is(t, x, e, s)
		}
	}
	for n := range 2 {
		w := gen(1000 + n)
		w.Root = 1
		pair := [2][]byte{raw(gen(2)), raw(gen(3))}
		pair[n] = raw(w)
		x, e := super.Choose(pair[0], pair[1])
		is(t, x, e, gen(3-n))
	}
}

// torn is a block of which the first k bytes are of a, and the rest of b.
func torn(a, b []byte, k int) []byte { return slices.Concat(a[:k], b[k:]) }

// mixes are pairs of superblocks of unlike generations, in which the bytes that differ stand now here, now there.
func mixes() [][2]api.Super {
	var l [][2]api.Super
	gens := []int{1, 2, 3, 4, 255, 256, 257, 511, 512, 0x0100_0000_0000, 0x0100_0000_0001, 0x0200_0000_0000, 0x0101_0101_0101, 1<<48 - 1}
	for _, g := range gens {
		for _, h := range gens {
			if g != h {
				l = append(l, [2]api.Super{gen(g), gen(h)})
			}
		}
	}
	late := full()
	late.Gen--
	bare := api.Super{Gen: 1, Next: 2}
	return append(l, [2]api.Super{full(), bare}, [2]api.Super{bare, full()}, [2]api.Super{full(), late}, [2]api.Super{late, full()}, [2]api.Super{few(), full()}, [2]api.Super{full(), few()})
}

// TestMixed (D1): a block of which a beginning is one superblock's, and the rest another one's, is that of one of both, or none's.
func TestMixed(t *testing.T) {
	for _, m := range mixes() {
		a, b := raw(m[0]), raw(m[1])
		for k := range 513 {
			c := torn(a, b, k)
			s, e := super.Of(c)
			switch {
			case bytes.Equal(c, a):
				is(t, s, e, m[0])
			case bytes.Equal(c, b):
				is(t, s, e, m[1])
			default:
				isNone(t, s, e)
			}
			if 8 <= k && k <= 504 && e == api.OK {
				t.Errorf("generations %d and %d, %d bytes: %#v", m[0].Gen, m[1].Gen, k, s)
			}
		}
	}
}

// TestWhileWritten (D2): while one place is written, the other one's superblock counts, or the new one.
func TestWhileWritten(t *testing.T) {
	for _, g := range []int{2, 3, 4, 254, 255, 256, 257, 65534, 65535, 1<<40 - 1, 1 << 40, 1<<48 - 2} {
		pair := [2][]byte{make([]byte, 512), make([]byte, 512)}
		pair[g%2] = raw(gen(g))
		if g > 2 {
			pair[(g+1)%2] = raw(gen(g - 1))
		}
		old, fresh := pair[(g+1)%2], raw(gen(g+1))
		for k := range 513 {
			pair[(g+1)%2] = torn(fresh, old, k)
			s, e := super.Choose(pair[0], pair[1])
			if bytes.Equal(pair[(g+1)%2], fresh) {
				is(t, s, e, gen(g+1))
			} else {
				is(t, s, e, gen(g))
			}
		}
	}
}

// TestAgain (R3, R4): the same blocks have the same answer, and two answers have nothing to do with each other.
func TestAgain(t *testing.T) {
	a, b := raw(gen(4)), raw(gen(5))
	first, _ := super.Choose(a, b)
	clear(first.Snaps)
	s, e := super.Choose(a, b)
	is(t, s, e, gen(5))
}
