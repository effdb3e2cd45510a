package log_test

import (
	"testing"

	"wainscot/api"
	"wainscot/log"
)

// TestIn (S1): a key that is not below From, and below To; with End, whatever To is.
func TestIn(t *testing.T) {
	none, top := api.Key{}, greatest()
	under := greatest()
	under[23]--
	middle := api.Key{5, 7, 9, 11: 3}
	for _, c := range []struct {
		what string
		key  api.Key
		s    api.Span
		want bool
	}{
		{"at From", k(5), of(k(5), k(7)), true},
		{"between", k(6), of(k(5), k(7)), true},
		{"at To", k(7), of(k(5), k(7)), false},
		{"above To", k(8), of(k(5), k(7)), false},
		{"below From", k(4), of(k(5), k(7)), false},
		{"just above From", last(6), of(last(5), last(7)), true},
		{"just below From", last(4), of(last(5), last(7)), false},
		{"just below To", last(8), of(last(5), last(9)), true},
		{"just at To", last(9), of(last(5), last(9)), false},
		{"a span of one key: that one", last(5), of(last(5), last(6)), true},
		{"a span of one key: the next one", last(6), of(last(5), last(6)), false},
		{"a span of one key: the one ahead", last(4), of(last(5), last(6)), false},
		{"just below To, whose last byte is nought", api.Key{1, 22: 1, 23: 255}, of(k(1), api.Key{1, 22: 2}), true},
		{"bytes are above 127 too", k(200), of(k(100), k(255)), true},
		{"a byte of 128 is above one of 127", k(128), of(k(0), k(128)), false},
		{"a byte of 127 is below one of 128", k(127), of(k(128), k(129)), false},
		{"the first byte counts more than those behind it", api.Key{4, 9, 9}, of(api.Key{5, 1}, k(7)), false},
		{"the first byte that differs is a later one", api.Key{5, 7, 9, 11: 4}, of(middle, api.Key{5, 7, 9, 11: 5}), true},
		{"the first byte that differs is that of From", api.Key{5, 7, 9, 11: 2}, of(middle, api.Key{5, 7, 9, 11: 5}), false},
		{"the first byte that differs is that of To", api.Key{5, 7, 9, 11: 5, 12: 1}, of(middle, api.Key{5, 7, 9, 11: 5}), false},
		{"the key of noughts", none, of(none, last(1)), true},
		{"the key of noughts, below From", none, of(last(1), top), false},
		{"the greatest key is at To", top, of(none, top), false},
		{"the one below the greatest", under, of(none, top), true},

		{"End: at From", k(5), on(k(5)), true},
		{"End: above From", k(6), on(k(5)), true},
		{"End: below From", k(4), on(k(5)), false},
		{"End: just above From", last(6), on(last(5)), true},
		{"End: just below From", last(4), on(last(5)), false},
		{"End: the greatest key", top, on(k(5)), true},
		{"End: the greatest key alone", top, on(top), true},
		{"End: the one below the greatest", under, on(top), false},
		{"End: the key of noughts", none, on(none), true},
		{"End: To is below the key", k(8), api.Span{From: k(5), To: k(7), End: true}, true},
		{"End: To is the key", k(7), api.Span{From: k(5), To: k(7), End: true}, true},
		{"End: To is below From", k(6), api.Span{From: k(5), To: k(2), End: true}, true},
		{"End: To is From", k(5), api.Span{From: k(5), To: k(5), End: true}, true},
		{"End: below From, with a To above it", k(4), api.Span{From: k(5), To: k(7), End: true}, false},
		{"End: below From, with a To below it", k(4), api.Span{From: k(5), To: k(2), End: true}, false},

		{"empty: To is From", k(5), of(k(5), k(5)), false},
		{"empty: To is below From", k(5), of(k(5), k(3)), false},
		{"empty: To is below From, and the key between", k(4), of(k(5), k(3)), false},
		{"empty: To is below From, and the key is To", k(3), of(k(5), k(3)), false},
		{"empty: To is below From, and the key above both", k(7), of(k(5), k(3)), false},
		{"empty: To is below From, and the key below both", k(2), of(k(5), k(3)), false},
		{"empty: noughts, and their key", none, api.Span{}, false},
		{"empty: noughts, and another key", k(5), api.Span{}, false},
		{"empty: From is the greatest key", top, of(top, top), false},
	} {
		if within(c.s, c.key) != c.want {
			t.Errorf("%s: the words say otherwise", c.what)
		}
		l := log.New(0)
		adds(t, l, 1, api.OK, c.key)
		if got, err := l.Conflicts(0, spans(c.s)); got != c.want || err != api.OK {
			t.Errorf("%s: %v, %v", c.what, got, err)
		}
	}
}

// TestSpans (S1): one of them is enough, wherever it stands, and whatever the others are.
func TestSpans(t *testing.T) {
	l := log.New(0)
	adds(t, l, 1, api.OK, k(50), k(10), k(30))
	adds(t, l, 2, api.OK, k(40))
	far, empty, turned := of(k(60), k(70)), of(k(10), k(10)), of(k(60), k(5))
	for _, c := range []struct {
		what  string
		s     []api.Span
		old   bool // the answer since 0
		young bool // and since 1
	}{
		{"nil", nil, false, false},
		{"none", spans(), false, false},
		{"one that is far away", spans(far), false, false},
		{"empty ones alone", spans(empty, turned, api.Span{}), false, false},
		{"the first key", spans(of(k(50), k(51))), true, false},
		{"the second key", spans(of(k(10), k(11))), true, false},
		{"the third key", spans(of(k(30), k(31))), true, false},
		{"the other commit's", spans(of(k(40), k(41))), true, true},
		{"between the keys", spans(of(k(11), k(30)), of(k(31), k(40)), of(k(41), k(50)), of(k(51), greatest())), false, false},
		{"the first of several", spans(of(k(30), k(31)), far, empty), true, false},
		{"the last of several", spans(far, empty, turned, of(k(30), k(31))), true, false},
		{"one between others", spans(far, of(k(35), k(45)), empty), true, true},
		{"the same twice", spans(of(k(50), k(51)), of(k(50), k(51))), true, false},
		{"in no order, across one another", spans(of(k(45), k(60)), of(k(20), k(29)), of(k(22), k(48))), true, true},
		{"from the greatest of them on", spans(far, on(k(50))), true, false},
		{"from above it on", spans(far, on(api.Key{50, 1})), false, false},
		{"all", all(), true, true},
		{"all, behind empty ones", append(spans(empty, turned), all()...), true, true},
	} {
		for since, want := range []bool{c.old, c.young, false} {
			if got, err := l.Conflicts(since, c.s); got != want || err != api.OK {
				t.Errorf("%s, since %d: %v, %v", c.what, since, got, err)
			}
		}
	}
	is(t, l, 2, 0, 4)
}

// TestEachByte (S1): keys are held against each other at all of their bytes.
func TestEachByte(t *testing.T) {
	for at := range (api.Key{}) {
		var low, mid, high api.Key
		low[at], mid[at], high[at] = 1, 2, 3
		l := log.New(0)
		adds(t, l, 1, api.OK, mid)
		conflicts(t, l, 0, spans(of(low, mid)), false)
		conflicts(t, l, 0, spans(of(mid, high)), true)
		conflicts(t, l, 0, spans(of(low, high)), true)
		conflicts(t, l, 0, spans(of(high, mid)), false)
		conflicts(t, l, 0, spans(on(mid)), true)
		conflicts(t, l, 0, spans(on(high)), false)
	}
}
