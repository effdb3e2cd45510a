package span_test

import (
	"slices"
	"testing"

	"wainscot/api"
	"wainscot/span"
)

// roomy is a list with room behind it, in which other spans stand.
func roomy(l ...api.Span) (list, whole []api.Span) {
	whole = slices.Concat(l, []api.Span{of('1', '2'), of('3', '4'), of('5', '6'), from('7')})
	return whole[:len(l)], whole
}

// TestKeepsLists (R1): what is handed in stays as it was, and so does what stands behind it.
func TestKeepsLists(t *testing.T) {
	a, wholeA := roomy(of('m', 'p'), of('c', 'a'), from('x'), of('a', 'd'), of('b', 'e'), of('q', 'q'), api.Span{From: api.Key{'y'}, To: api.Key{'b'}, End: true})
	b, wholeB := roomy(of('n', 'z'), of('d', 'f'), of('b', 'c'))
	keys := []api.Key{{'z'}, {'b'}, {'a'}}
	wasA, wasB, wasKeys := slices.Clone(wholeA), slices.Clone(wholeB), slices.Clone(keys)
	for _, call := range []func(){
		func() { span.Clean(a) },
		func() { span.Has(a, api.Key{'b'}) },
		func() { span.Touch(a, b) },
		func() { span.Both(a, b) },
		func() { span.Any(a, keys) },
		func() { span.Less(a, b) },
		func() { span.Less(b, a) },
		func() { span.Both(a, a) },
		func() { span.Less(a, a) },
	} {
		call()
		if !slices.Equal(wholeA, wasA) || !slices.Equal(wholeB, wasB) || !slices.Equal(keys, wasKeys) {
			t.Fatal("what was handed in is changed")
		}
	}
}

// TestAnswersAreTheCallers (R1): an answer stays as it is while what was handed in is written over, and the other way round.
func TestAnswersAreTheCallers(t *testing.T) {
	for _, call := range []func(a, b []api.Span) []api.Span{
		func(a, _ []api.Span) []api.Span { return span.Clean(a) },
		span.Both,
		span.Less,
		func(a, b []api.Span) []api.Span { return span.Less(a, nil) },
		func(a, b []api.Span) []api.Span { return span.Both(a, list(all())) },
		func(a, b []api.Span) []api.Span { return span.Both(a, a) },
	} {
		a, b := list(of('a', 'c'), of('f', 'h'), from('x')), list(of('b', 'g'), of('y', 'z'))
		wasA, wasB := slices.Clone(a), slices.Clone(b)
		got := call(a, b)
		want := slices.Clone(got)
		if len(want) < 2 {
			t.Fatalf("%s", told(want))
		}
		clear(a)
		clear(b)
		is(t, "an answer", got, want)

		a, b = wasA, wasB
		wasA, wasB = slices.Clone(a), slices.Clone(b)
		got = call(a, b)
		clear(got[:cap(got)])
		is(t, "what was handed in", a, wasA)
		is(t, "what was handed in", b, wasB)
		is(t, "the next answer", call(a, b), want)
	}
}
