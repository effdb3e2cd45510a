package span_test

import (
	"fmt"
	"slices"
	"strings"
	"testing"

	"wainscot/api"
	"wainscot/span"
)

// of is the span from a to b, of keys of one byte and noughts.
func of(a, b byte) api.Span { return api.Span{From: api.Key{a}, To: api.Key{b}} }

// from is the span from a on, to the end.
func from(a byte) api.Span { return api.Span{From: api.Key{a}, End: true} }

// all is the span of all keys.
func all() api.Span { return api.Span{End: true} }

func list(l ...api.Span) []api.Span { return l }

// last is the key that has b as its last byte, behind noughts: so keys stand beside one another.
func last(b byte) api.Key { return api.Key{23: b} }

// near is the span from a to b of such keys.
func near(a, b byte) api.Span { return api.Span{From: last(a), To: last(b)} }

// high is the key that is so many below the greatest one.
func high(below byte) api.Key {
	var k api.Key
	for i := range k {
		k[i] = 255
	}
	k[len(k)-1] -= below
	return k
}

func told(l []api.Span) string {
	var parts []string
	for _, s := range l {
		parts = append(parts, fmt.Sprintf("%x to %x (End %v)", s.From, s.To, s.End))
	}
	return "[" + strings.Join(parts, ", ") + "]"
}

// is asks for just these spans.
func is(t *testing.T, what string, got, want []api.Span) {
	t.Helper()
	if !slices.Equal(got, want) {
		t.Errorf("%s: %s; want %s", what, told(got), told(want))
	}
}

// below tells whether a is less than b: by the first byte that differs.
func below(a, b api.Key) bool {
	for i := range a {
		if a[i] != b[i] {
			return a[i] < b[i]
		}
	}
	return false
}

// means is the chapter's words, of one key: it is in one of the spans.
func means(l []api.Span, k api.Key) bool {
	for _, s := range l {
		if !below(k, s.From) && (s.End || below(k, s.To)) {
			return true
		}
	}
	return false
}

// isSet is the chapter's words: none is empty, each begins above where the one ahead ends, one with an End is the last, and has a To of noughts.
func isSet(l []api.Span) bool {
	for i, s := range l {
		if !s.End && !below(s.From, s.To) {
			return false
		}
		if s.End && (i != len(l)-1 || s.To != api.Key{}) {
			return false
		}
		if i > 0 && !below(l[i-1].To, s.From) {
			return false
		}
	}
	return true
}

// line is keys, rising, from noughts on: where spans begin and end at no other keys, what a list means of these tells what it means of all.
type line []api.Key

// bits is which keys of the line a list means.
func (u line) bits(l []api.Span) []bool {
	var b []bool
	for _, k := range u {
		b = append(b, means(l, k))
	}
	return b
}

// set is the set of the keys of which keep says so: of each run of them a span.
func (u line) set(keep func(i int) bool) []api.Span {
	var l []api.Span
	for i := 0; i < len(u); i++ {
		if !keep(i) {
			continue
		}
		first := u[i]
		for i < len(u) && keep(i) {
			i++
		}
		if i == len(u) {
			return append(l, api.Span{From: first, End: true})
		}
		l = append(l, api.Span{From: first, To: u[i]})
	}
	return l
}

// spans is all spans that begin and end at these keys, empty ones and such with an End and a To among them.
func (u line) spans() []api.Span {
	var l []api.Span
	for _, a := range u {
		for _, b := range u {
			l = append(l, api.Span{From: a, To: b}, api.Span{From: a, To: b, End: true})
		}
	}
	return l
}

// lines is a few lines: of keys that stand beside one another, at both ends of all keys, and of such that don't.
func lines() []line {
	return []line{
		{{}, last(1), last(2), last(3)},
		{{}, high(2), high(1), high(0)},
		{{}, last(255), {22: 1}, high(0)},
		{{}, {'a'}, {'a', 1}, {'b'}},
	}
}

// lists is all lists of at most so many of these spans.
func lists(l []api.Span, most int) [][]api.Span {
	each := [][]api.Span{nil}
	for at := 0; most > 0; most-- {
		n := len(each)
		for ; at < n; at++ {
			for _, s := range l {
				each = append(each, append(slices.Clone(each[at]), s))
			}
		}
	}
	return each
}

// checkOne holds what is answered of a list against the words.
func checkOne(t *testing.T, u line, l []api.Span) {
	t.Helper()
	bits := u.bits(l)
	want := u.set(func(i int) bool { return bits[i] })
	got := span.Clean(l)
	if !isSet(got) || !slices.Equal(got, want) {
		t.Fatalf("Clean of %s: %s; want %s", told(l), told(got), told(want))
	}
	if again := span.Clean(got); !slices.Equal(again, want) {
		t.Fatalf("Clean of %s: %s", told(got), told(again))
	}
	for i, k := range u {
		if span.Has(l, k) != bits[i] || span.Has(got, k) != bits[i] {
			t.Fatalf("Has %x of %s: want %v", k, told(l), bits[i])
		}
	}
	for from := range u {
		for to := from; to <= len(u); to++ {
			if span.Any(l, u[from:to]) != slices.Contains(bits[from:to], true) {
				t.Fatalf("Any %x of %s: want %v", u[from:to], told(l), bits[from:to])
			}
		}
	}
}

// checkTwo holds what is answered of two lists against the words.
func checkTwo(t *testing.T, u line, a, b []api.Span) {
	t.Helper()
	ofA, ofB := u.bits(a), u.bits(b)
	both := u.set(func(i int) bool { return ofA[i] && ofB[i] })
	less := u.set(func(i int) bool { return ofA[i] && !ofB[i] })
	if got := span.Both(a, b); !isSet(got) || !slices.Equal(got, both) {
		t.Fatalf("Both of %s and %s: %s; want %s", told(a), told(b), told(got), told(both))
	}
	if got := span.Less(a, b); !isSet(got) || !slices.Equal(got, less) {
		t.Fatalf("Less of %s and %s: %s; want %s", told(a), told(b), told(got), told(less))
	}
	if got := span.Touch(a, b); got != (len(both) > 0) {
		t.Fatalf("Touch of %s and %s: %v", told(a), told(b), got)
	}
}

// TestEachList (H1, H2): all lists of at most three spans between a few keys.
func TestEachList(t *testing.T) {
	t.Parallel()
	for _, u := range lines() {
		for _, l := range lists(u.spans(), 3) {
			checkOne(t, u, l)
		}
	}
}

// TestEachTwo (H2, H3): all lists of at most two spans between a few keys, with each other one of at most one; and the other way round.
func TestEachTwo(t *testing.T) {
	t.Parallel()
	for _, u := range lines() {
		few := lists(u.spans(), 1)
		for _, a := range lists(u.spans(), 2) {
			for _, b := range few {
				checkTwo(t, u, a, b)
				checkTwo(t, u, b, a)
			}
		}
	}
}

// numbers is a row of numbers that looks like chance, the same each time.
func numbers(seed uint64) func(n int) int {
	return func(n int) int {
		seed = seed*6364136223846793005 + 1442695040888963407
		return int((seed >> 33) % uint64(n))
	}
}

// longLine is keys of which some stand beside one another, and some don't.
func longLine() line {
	var u line
	for i := range 30 {
		u = append(u, last(byte(i)))
	}
	for i := range 30 {
		u = append(u, api.Key{byte(3 * i), 7: byte(i), 23: 1}, api.Key{byte(3*i + 1)})
	}
	for i := range 30 {
		u = append(u, high(byte(29-i)))
	}
	slices.SortFunc(u, func(a, b api.Key) int {
		if below(a, b) {
			return -1
		}
		return 1
	})
	return slices.Compact(u)
}

// many is a list of up to so many spans, of which most are short: else they would mean nearly all keys.
func many(u line, next func(int) int, most int) []api.Span {
	var l []api.Span
	for range next(most + 1) {
		at := next(len(u))
		s := api.Span{From: u[at], To: u[min(at+next(4), len(u)-1)]}
		switch next(40) {
		case 0:
			s.End = true
		case 1:
			s.From, s.To = s.To, s.From
		case 2:
			s = api.Span{From: u[next(len(u))], To: u[next(len(u))]}
		case 3:
			if len(l) > 0 {
				s = l[next(len(l))]
			}
		}
		l = append(l, s)
	}
	return l
}

// TestLongLists (H1 to H3): lists of many spans, in any order.
func TestLongLists(t *testing.T) {
	t.Parallel()
	u := longLine()
	next := numbers(8)
	for range 3000 {
		most := 1 + next(50)
		a, b := many(u, next, most), many(u, next, most)
		checkTwo(t, u, a, b)
		checkTwo(t, u, a, a)
		bits := u.bits(a)
		is(t, "Clean", span.Clean(a), u.set(func(i int) bool { return bits[i] }))
		var keys []api.Key
		for range next(5) {
			keys = append(keys, u[next(len(u))])
		}
		if got, want := span.Any(a, keys), slices.ContainsFunc(keys, func(k api.Key) bool { return means(a, k) }); got != want {
			t.Fatalf("Any %x of %s: %v", keys, told(a), got)
		}
		for i, k := range u {
			if span.Has(a, k) != bits[i] {
				t.Fatalf("Has %x of %s: want %v", k, told(a), bits[i])
			}
		}
	}
}

// TestVeryLong (H1 to H3): a list of very many spans.
func TestVeryLong(t *testing.T) {
	const n = 100000
	at := func(i int) api.Key { return api.Key{20: byte(i >> 16), 21: byte(i >> 8), 22: byte(i)} }
	var l, gaps []api.Span
	var ends []api.Key
	for i := range n {
		i = n - 1 - i
		l = append(l, api.Span{From: at(2 * i), To: at(2*i + 1)})
		gaps = append(gaps, api.Span{From: at(2*i + 1), To: at(2*i + 2)})
		ends = append(ends, at(2*i+1))
	}
	rising := slices.Clone(l)
	slices.Reverse(rising)
	is(t, "Clean", span.Clean(l), rising)
	is(t, "Clean", span.Clean(slices.Concat(l, gaps)), list(api.Span{To: at(2 * n)}))
	is(t, "Both", span.Both(l, gaps), nil)
	is(t, "Both", span.Both(l, list(all())), rising)
	is(t, "Less", span.Less(l, gaps), rising)
	is(t, "Less", span.Less(list(api.Span{To: at(2 * n)}), gaps), rising)
	if span.Touch(l, gaps) || span.Any(l, ends) || !span.Any(l, append(ends, at(0))) {
		t.Error("Touch, Any")
	}
}
