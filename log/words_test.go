package log_test

import (
	"slices"
	"testing"

	"wainscot/api"
	"wainscot/log"
)

// plain is the chapter's words, done one by one.
type plain struct {
	last, floor int
	known       []commit
}

type commit struct {
	number int
	keys   []api.Key
}

func begin(last int) *plain {
	if last < 0 {
		return &plain{}
	}
	return &plain{last: last, floor: last}
}

func (p *plain) add(number int, keys []api.Key) api.Errno {
	if number <= p.last {
		return api.EArg
	}
	p.known = append(p.known, commit{number, slices.Clone(keys)})
	p.last = number
	return api.OK
}

func (p *plain) conflicts(since int, spans []api.Span) (bool, api.Errno) {
	if since > p.last {
		return false, api.EArg
	}
	if since < p.floor {
		return false, api.EState
	}
	there := false
	for _, c := range p.known {
		for _, k := range c.keys {
			for _, s := range spans {
				there = there || c.number > since && within(s, k)
			}
		}
	}
	return there, api.OK
}

func (p *plain) prune(oldest int) {
	var left []commit
	for _, c := range p.known {
		if c.number > oldest {
			left = append(left, c)
		}
	}
	p.known = left
	switch {
	case oldest > p.last:
		p.floor = p.last
	case p.floor < oldest:
		p.floor = oldest
	}
}

func (p *plain) len() int {
	n := 0
	for _, c := range p.known {
		n += len(c.keys)
	}
	return n
}

// within is the chapter's word IN; texts are held against each other byte by byte.
func within(s api.Span, k api.Key) bool {
	at, from, to := string(k[:]), string(s.From[:]), string(s.To[:])
	return at >= from && (s.End || at < to)
}

// k is the key that begins with this byte, and has noughts behind it.
func k(first byte) api.Key { return api.Key{first} }

// last is the key that has this byte as its last one, behind noughts.
func last(b byte) api.Key { return api.Key{23: b} }

// greatest is the greatest key of all.
func greatest() api.Key {
	var k api.Key
	for i := range k {
		k[i] = 255
	}
	return k
}

func keys(l ...api.Key) []api.Key    { return l }
func spans(l ...api.Span) []api.Span { return l }

// of is the span from a to b.
func of(a, b api.Key) api.Span { return api.Span{From: a, To: b} }

// on is the span from a on, to the end.
func on(a api.Key) api.Span { return api.Span{From: a, End: true} }

func all() []api.Span { return spans(api.Span{End: true}) }

// is asks for what a log tells of itself.
func is(t *testing.T, l *log.Log, last, floor, length int) {
	t.Helper()
	if l.Last() != last || l.Floor() != floor || l.Len() != length {
		t.Errorf("Last %d, Floor %d, Len %d; want %d, %d, %d", l.Last(), l.Floor(), l.Len(), last, floor, length)
	}
}

func adds(t *testing.T, l *log.Log, number int, want api.Errno, keys ...api.Key) {
	t.Helper()
	if got := l.Add(number, keys); got != want {
		t.Errorf("Add %d: %v; want %v", number, got, want)
	}
}

func conflicts(t *testing.T, l *log.Log, since int, s []api.Span, want bool) {
	t.Helper()
	if got, err := l.Conflicts(since, s); got != want || err != api.OK {
		t.Errorf("Conflicts since %d, %v: %v, %v; want %v", since, s, got, err, want)
	}
}

// refuses asks for this error, and false beside it.
func refuses(t *testing.T, l *log.Log, since int, s []api.Span, want api.Errno) {
	t.Helper()
	if got, err := l.Conflicts(since, s); got || err != want {
		t.Errorf("Conflicts since %d, %v: %v, %v; want false, %v", since, s, got, err, want)
	}
}
