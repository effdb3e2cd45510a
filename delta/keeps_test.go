package delta_test

import (
	"slices"
	"testing"

	"wainscot/api"
	"wainscot/delta"
)

// handed is lists of all kinds, with room behind them, in which other items stand.
type handed struct {
	a, b, base []api.Pair
	c, d       []api.Change
	whole      [][]api.Pair
	wholeC     [][]api.Change
	l          [][]api.Change
}

func hand() *handed {
	h := &handed{}
	pairsOf := func(l ...api.Pair) []api.Pair {
		whole := slices.Concat(l, pairs(p(7, "r"), p(0, "s"), p(1, "t"), p(8, "u")))
		h.whole = append(h.whole, whole)
		return whole[:len(l)]
	}
	changesOf := func(l ...api.Change) []api.Change {
		whole := slices.Concat(l, changes(put(7, "r"), goneWith(0, "s"), put(1, "t")))
		h.wholeC = append(h.wholeC, whole)
		return whole[:len(l)]
	}
	h.a = pairsOf(p(3, "a"), p(1, "b"), p(3, "c"), p(2, ""))
	h.b = pairsOf(p(4, "d"), p(3, "e"), p(1, "f"), p(4, "g"))
	h.base = pairsOf(p(5, "h"), p(3, "i"), p(5, "j"))
	h.c = changesOf(put(6, "k"), goneWith(3, "l"), put(1, "m"), put(6, "n"))
	h.d = changesOf(goneWith(6, "o"), put(2, "p"))
	h.l = [][]api.Change{h.c, h.d, nil, h.c}
	return h
}

func (h *handed) same(o *handed) bool {
	return slices.EqualFunc(h.whole, o.whole, slices.Equal) && slices.EqualFunc(h.wholeC, o.wholeC, slices.Equal) && slices.EqualFunc(h.l, o.l, slices.Equal)
}

// wipe writes over all of it.
func (h *handed) wipe() {
	for _, l := range h.whole {
		clear(l)
	}
	for _, l := range h.wholeC {
		clear(l)
	}
	clear(h.l)
}

// answer is what one of the calls answers; of those that it does not have there is nothing.
type answer struct {
	pairs   []api.Pair
	changes []api.Change
	keys    []api.Key
}

func (x answer) same(y answer) bool {
	return slices.Equal(x.pairs, y.pairs) && slices.Equal(x.changes, y.changes) && slices.Equal(x.keys, y.keys)
}

func (x answer) clone() answer {
	return answer{slices.Clone(x.pairs), slices.Clone(x.changes), slices.Clone(x.keys)}
}

func calls() map[string]func(*handed) answer {
	return map[string]func(*handed) answer{
		"Map":               func(h *handed) answer { return answer{pairs: delta.Map(h.a)} },
		"Map of a map":      func(h *handed) answer { return answer{pairs: delta.Map(h.a[:1])} },
		"Apply":             func(h *handed) answer { return answer{pairs: delta.Apply(h.a, h.c)} },
		"Apply of nothing":  func(h *handed) answer { return answer{pairs: delta.Apply(h.a[1:3], nil)} },
		"Diff":              func(h *handed) answer { return answer{changes: delta.Diff(h.a, h.b)} },
		"Diff of nothing":   func(h *handed) answer { return answer{changes: delta.Diff(nil, h.b)} },
		"Join of one":       func(h *handed) answer { return answer{changes: delta.Join(h.c)} },
		"Join of one delta": func(h *handed) answer { return answer{changes: delta.Join(h.c[:1])} },
		"Join of several":   func(h *handed) answer { return answer{changes: delta.Join(h.l...)} },
		"Merge": func(h *handed) answer {
			m, k := delta.Merge(h.base, h.a, h.b)
			return answer{pairs: m, keys: k}
		},
		"Merge of theirs alone": func(h *handed) answer {
			m, k := delta.Merge(nil, h.a, nil)
			return answer{pairs: m, keys: k}
		},
	}
}

// TestKeepsLists (R1): what is handed in stays as it was, and so does what stands behind it.
func TestKeepsLists(t *testing.T) {
	for what, call := range calls() {
		h := hand()
		call(h)
		if !h.same(hand()) {
			t.Errorf("%s: what was handed in is changed", what)
		}
	}
}

// TestAnswersAreTheCallers (R1): an answer stays as it is while what was handed in is written over, and the other way round.
func TestAnswersAreTheCallers(t *testing.T) {
	for what, call := range calls() {
		h := hand()
		got := call(h)
		want := got.clone()
		if len(want.pairs)+len(want.changes) == 0 {
			t.Fatalf("%s: nothing", what)
		}
		h.wipe()
		if !got.same(want) {
			t.Errorf("%s: the answer is changed with what was handed in", what)
		}

		h = hand()
		got = call(h)
		clear(got.pairs[:cap(got.pairs)])
		clear(got.changes[:cap(got.changes)])
		clear(got.keys[:cap(got.keys)])
		if !h.same(hand()) {
			t.Errorf("%s: what was handed in is changed with the answer", what)
		}
		if !call(h).same(want) {
			t.Errorf("%s: the next answer is changed with this one", what)
		}
	}
}
