package key_test

import (
	"fmt"
	"maps"
	"math"
	"math/big"
	"slices"
	"strings"
	"testing"

	"wainscot/api"
	"wainscot/key"
)

// someKeys are right keys, others, and those that stand beside each of them.
func someKeys(t *testing.T) []api.Key {
	texts := []string{
		noughts(24), noughts(23) + "\x01", strings.Repeat("\xff", 23) + "\xfe", strings.Repeat("\xff", 24),
		"\x7f" + strings.Repeat("\xff", 23), "\x80" + noughts(23), noughts(22) + "\x01\xff", "a" + noughts(21) + "\xff\xff",
	}
	for _, ino := range []int{0, 1, 2, 6, 7, 8, 1<<30 - 2, 1<<30 - 1, 1 << 30, 1<<32 - 1} {
		for _, kind := range []string{"\x00", "\x01", "\x02", "\x03", "\x04", "\xff"} {
			texts = append(texts, four(ino)+kind+noughts(19), four(ino)+kind+strings.Repeat("\xff", 19))
		}
	}
	texts = append(texts, slices.Sorted(maps.Keys(rightKeys()))...)
	var l []api.Key
	for _, s := range texts {
		for by := int64(-1); by <= 1; by++ {
			if k, ok := moved(of(t, s), by); ok {
				l = append(l, k)
			}
		}
	}
	return l
}

// moved is the key that stands so many behind k, if there is one: keys as numbers.
func moved(k api.Key, by int64) (api.Key, bool) {
	n := new(big.Int).SetBytes(k[:])
	n.Add(n, big.NewInt(by))
	if n.Sign() < 0 || n.BitLen() > 8*lengthOfKeys {
		return api.Key{}, false
	}
	var to api.Key
	n.FillBytes(to[:])
	return to, true
}

func spans(t *testing.T, s api.Span, from, to string) {
	t.Helper()
	if want := (api.Span{From: of(t, from), To: of(t, to)}); s != want {
		t.Errorf("%s; want %s", told(s), told(want))
	}
}

func told(s api.Span) string { return fmt.Sprintf("%x to %x (End %v)", s.From, s.To, s.End) }

// TestOne (C3): from k on, below the next one; the greatest key's span goes to the end.
func TestOne(t *testing.T) {
	spans(t, key.One(of(t, entryBytes(1, "ab"))), entryBytes(1, "ab"), four(1)+"\x02ab"+noughts(16)+"\x03")
	spans(t, key.One(api.Key{}), noughts(24), noughts(23)+"\x01")
	spans(t, key.One(of(t, noughts(23)+"\xfe")), noughts(23)+"\xfe", noughts(23)+"\xff")
	spans(t, key.One(of(t, noughts(23)+"\xff")), noughts(23)+"\xff", noughts(22)+"\x01\x00")
	spans(t, key.One(of(t, chunkBytes(7, 1<<32-1))), chunkBytes(7, 1<<32-1), four(7)+"\x03"+noughts(14)+"\x01"+noughts(4))
	spans(t, key.One(of(t, "\xfe"+strings.Repeat("\xff", 23))), "\xfe"+strings.Repeat("\xff", 23), "\xff"+noughts(23))
	spans(t, key.One(of(t, strings.Repeat("\xff", 23)+"\xfe")), strings.Repeat("\xff", 23)+"\xfe", strings.Repeat("\xff", 24))

	greatest := of(t, strings.Repeat("\xff", 24))
	if s := key.One(greatest); s != (api.Span{From: greatest, End: true}) {
		t.Error("One of the greatest:", told(s))
	}
}

// TestOneAll (C3): k is in its span, and none beside it; the next is the key that is greater by one.
func TestOneAll(t *testing.T) {
	for _, k := range someKeys(t) {
		s := key.One(k)
		next, ok := moved(k, 1)
		if want := (api.Span{From: k, To: next, End: !ok}); s != want {
			t.Errorf("One of %x: %s; want %s", k, told(s), told(want))
		}
		if !key.In(s, k) {
			t.Errorf("%x is not in %s", k, told(s))
		}
		for _, by := range []int64{-256, -2, -1, 1, 2, 256} {
			if x, ok := moved(k, by); ok && key.In(s, x) {
				t.Errorf("%x is in %s", x, told(s))
			}
		}
	}
}

// TestEntries (C3): from the least bytes of the kind on, below the least of the next.
func TestEntries(t *testing.T) {
	spans(t, key.Entries(1), "\x00\x00\x00\x01\x02"+noughts(19), "\x00\x00\x00\x01\x03"+noughts(19))
	spans(t, key.Entries(0x01020304), "\x01\x02\x03\x04\x02"+noughts(19), "\x01\x02\x03\x04\x03"+noughts(19))
	spans(t, key.Entries(1<<30-1), "\x3f\xff\xff\xff\x02"+noughts(19), "\x3f\xff\xff\xff\x03"+noughts(19))
	for _, dir := range numbers {
		spans(t, key.Entries(dir), four(dir)+"\x02"+noughts(19), four(dir)+"\x03"+noughts(19))
	}
	for _, dir := range noNumbers {
		spans(t, key.Entries(dir), noughts(24), noughts(24))
	}
}

// TestChunks (C3): from the place on, below the least of the next kind.
func TestChunks(t *testing.T) {
	spans(t, key.Chunks(7, 0), "\x00\x00\x00\x07\x03"+noughts(19), "\x00\x00\x00\x07\x04"+noughts(19))
	spans(t, key.Chunks(7, 300), "\x00\x00\x00\x07\x03"+noughts(15)+"\x00\x00\x01\x2c", "\x00\x00\x00\x07\x04"+noughts(19))
	spans(t, key.Chunks(1<<30-1, 1<<32-1), "\x3f\xff\xff\xff\x03"+noughts(15)+"\xff\xff\xff\xff", "\x3f\xff\xff\xff\x04"+noughts(19))
	for _, ino := range numbers {
		for _, from := range places {
			spans(t, key.Chunks(ino, from), four(ino)+"\x03"+noughts(15)+four(from), four(ino)+"\x04"+noughts(19))
		}
		for _, from := range noPlaces {
			spans(t, key.Chunks(ino, from), noughts(24), noughts(24))
		}
	}
	for _, ino := range noNumbers {
		for _, from := range append(noPlaces, places...) {
			spans(t, key.Chunks(ino, from), noughts(24), noughts(24))
		}
	}
}

// TestWithin (C3): of right keys all entries of a directory, and no others, are in its span; of chunks all from the place on.
func TestWithin(t *testing.T) {
	all := rightKeys()
	inos := append(numbers, 0, 1<<30, 3)
	for s, p := range all {
		k := of(t, s)
		for _, ino := range inos {
			if got, want := key.In(key.Entries(ino), k), p.Kind == api.KindEntry && p.Ino == ino; got != want {
				t.Errorf("Entries(%d), %#v: %v", ino, p, got)
			}
			for _, from := range append(places, -1, 1<<32) {
				want := from >= 0 && p.Kind == api.KindChunk && p.Ino == ino && p.Place >= from
				if got := key.In(key.Chunks(ino, from), k); got != want {
					t.Errorf("Chunks(%d, %d), %#v: %v", ino, from, p, got)
				}
			}
		}
	}
}

// TestOrder (C1, C3): of two entries of one directory the one with the lesser name is the lesser; likewise of chunks, by place.
func TestOrder(t *testing.T) {
	from := func(k api.Key) api.Span { return api.Span{From: k, End: true} }
	for _, a := range names {
		for _, b := range names {
			x, _ := key.Entry(9, a)
			y, _ := key.Entry(9, b)
			if key.In(from(x), y) != (a <= b) || (string(x[:]) < string(y[:])) != (a < b) {
				t.Errorf("%q, %q", a, b)
			}
		}
	}
	for _, a := range places {
		for _, b := range places {
			x, _ := key.Chunk(9, a)
			y, _ := key.Chunk(9, b)
			if key.In(from(x), y) != (a <= b) || (string(x[:]) < string(y[:])) != (a < b) {
				t.Errorf("%d, %d", a, b)
			}
		}
	}
}

// TestIn (C3): not less than From, and, without End, less than To.
func TestIn(t *testing.T) {
	a, b, c := api.Key{0: 1}, api.Key{0: 1, 23: 7}, api.Key{0: 2}
	last := of(t, strings.Repeat("\xff", 24))
	for _, f := range []struct {
		name string
		s    api.Span
		k    api.Key
		in   bool
	}{
		{"at From", api.Span{From: a, To: c}, a, true},
		{"within", api.Span{From: a, To: c}, b, true},
		{"at To", api.Span{From: a, To: c}, c, false},
		{"ahead", api.Span{From: b, To: c}, a, false},
		{"behind", api.Span{From: a, To: b}, c, false},
		{"last but one", api.Span{From: a, To: last}, last, false},
		{"empty, of noughts", api.Span{}, api.Key{}, false},
		{"empty, of noughts, another one", api.Span{}, a, false},
		{"empty, at From and To", api.Span{From: b, To: b}, b, false},
		{"empty, ahead", api.Span{From: b, To: b}, a, false},
		{"empty, behind", api.Span{From: b, To: b}, c, false},
		{"To below From, at From", api.Span{From: c, To: a}, c, false},
		{"To below From, at To", api.Span{From: c, To: a}, a, false},
		{"To below From, between", api.Span{From: c, To: a}, b, false},
		{"End, all", api.Span{End: true}, api.Key{}, true},
		{"End, all, the last", api.Span{End: true}, last, true},
		{"End, at From", api.Span{From: b, End: true}, b, true},
		{"End, ahead", api.Span{From: b, End: true}, a, false},
		{"End, behind", api.Span{From: b, End: true}, c, true},
		{"End, the last", api.Span{From: last, End: true}, last, true},
		{"End, ahead of the last", api.Span{From: last, End: true}, c, false},
		{"End and To, behind To", api.Span{From: a, To: b, End: true}, c, true},
		{"End and To, at To", api.Span{From: a, To: b, End: true}, b, true},
		{"End and To below From", api.Span{From: b, To: a, End: true}, c, true},
		{"End and To below From, ahead", api.Span{From: b, To: a, End: true}, a, false},
	} {
		if key.In(f.s, f.k) != f.in {
			t.Errorf("%s: %v", f.name, !f.in)
		}
	}
}

// TestInBytes (C3): each byte counts, the first ones most, as numbers from 0 to 255.
func TestInBytes(t *testing.T) {
	for i := range lengthOfKeys {
		from, to := api.Key{}, api.Key{}
		from[i], to[i] = 100, 200
		for c := range 256 {
			k := api.Key{}
			k[i] = byte(c)
			if key.In(api.Span{From: from, To: to}, k) != (c >= 100 && c < 200) {
				t.Errorf("byte %d of %d", i, c)
			}
			if key.In(api.Span{From: from, End: true}, k) != (c >= 100) {
				t.Errorf("byte %d of %d, with End", i, c)
			}
			for j := i + 1; j < lengthOfKeys; j++ {
				k[j] = 255
			}
			if key.In(api.Span{From: from, To: to}, k) != (c >= 100 && c < 200) {
				t.Errorf("byte %d of %d, and behind it 255", i, c)
			}
		}
	}
}

// TestInAll (C3): In against keys as texts.
func TestInAll(t *testing.T) {
	all := someKeys(t)
	var some []api.Key
	for i := 0; i < len(all); i += 1 + len(all)/60 {
		some = append(some, all[i])
	}
	for _, from := range some {
		for _, to := range some {
			for _, k := range some {
				behind := string(k[:]) >= string(from[:])
				if key.In(api.Span{From: from, To: to}, k) != (behind && string(k[:]) < string(to[:])) {
					t.Errorf("%x to %x, %x", from, to, k)
				}
				if key.In(api.Span{From: from, To: to, End: true}, k) != behind {
					t.Errorf("%x to the end, %x", from, k)
				}
			}
		}
	}
}

// TestApart (R1, R4): what was answered is the caller's, and the same call has the same answer again.
func TestApart(t *testing.T) {
	k, _ := key.Entry(1, "ab")
	s := key.Entries(1)
	p, _ := key.Of(k)
	before := k
	k[5], s.From[4], s.To[4] = 'x', 9, 9
	if p.Name != "ab" {
		t.Error(p)
	}
	if again, ok := key.Entry(1, "ab"); !ok || again != before {
		t.Errorf("%x", again)
	}
	spans(t, key.Entries(1), four(1)+"\x02"+noughts(19), four(1)+"\x03"+noughts(19))
	one := key.One(before)
	one.From[0], one.To[0] = 1, 1
	if before[0] != 0 || key.One(before).From != before {
		t.Error("One has kept its answer")
	}
	for _, n := range []int{math.MinInt, math.MaxInt} {
		if key.Chunks(n, n) != (api.Span{}) || key.Chunks(1, n) != (api.Span{}) {
			t.Error(n)
		}
	}
}
