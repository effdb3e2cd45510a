package log_test

import (
	"math"
	"math/rand"
	"testing"

	"wainscot/api"
	"wainscot/log"
)

// step is one call: Add of a number with keys, Conflicts since a number with spans, or Prune up to a number.
type step struct {
	call  byte // a, c or p
	n     int
	keys  []api.Key
	spans []api.Span
}

// of does the step on a log.
func (s step) of(l *log.Log) (bool, api.Errno) {
	switch s.call {
	case 'a':
		return false, l.Add(s.n, s.keys)
	case 'c':
		return l.Conflicts(s.n, s.spans)
	default:
		l.Prune(s.n)
		return false, api.OK
	}
}

// by does it as the words say it.
func (s step) by(p *plain) (bool, api.Errno) {
	switch s.call {
	case 'a':
		return false, p.add(s.n, s.keys)
	case 'c':
		return p.conflicts(s.n, s.spans)
	default:
		p.prune(s.n)
		return false, api.OK
	}
}

// both does it on both, and asks that they answer the same, and tell the same of themselves then.
func (s step) both(t *testing.T, l *log.Log, p *plain) {
	t.Helper()
	got, err := s.of(l)
	want, wrong := s.by(p)
	if got != want || err != wrong {
		t.Fatalf("%c %d %x %v: %v, %v; want %v, %v", s.call, s.n, s.keys, s.spans, got, err, want, wrong)
	}
	if l.Last() != p.last || l.Floor() != p.floor || l.Len() != p.len() {
		t.Fatalf("%c %d: Last %d, Floor %d, Len %d; want %d, %d, %d", s.call, s.n, l.Last(), l.Floor(), l.Len(), p.last, p.floor, p.len())
	}
}

// steps is what may be done to a small log.
func steps() []step {
	l := []step{
		{call: 'a', n: 1, keys: keys(k(1))},
		{call: 'a', n: 2, keys: keys(k(2), k(1))},
		{call: 'a', n: 3},
		{call: 'a', n: 4, keys: keys(k(3), k(3))},
		{call: 'a', n: 6, keys: keys(k(2))},
	}
	for n := -1; n <= 7; n++ {
		l = append(l, step{call: 'p', n: n})
	}
	return l
}

// TestEveryWay (S1): all ways of four steps, with everything asked behind them.
func TestEveryWay(t *testing.T) {
	calls := steps()
	asked := [][]api.Span{nil, all(), spans(of(k(1), k(2))), spans(of(k(2), k(3))), spans(of(k(3), k(4)), of(k(1), k(1)))}
	const depth = 4
	ways := 1
	for range depth {
		ways *= len(calls)
	}
	for _, first := range []int{-1, 0, 2} {
		for way := range ways {
			l, p := log.New(first), begin(first)
			rest := way
			for range depth {
				calls[rest%len(calls)].both(t, l, p)
				rest /= len(calls)
			}
			for since := -1; since <= 7; since++ {
				for _, s := range asked {
					step{call: 'c', n: since, spans: s}.both(t, l, p)
				}
			}
		}
	}
}

// dealer deals steps, the same ones from the same number on.
type dealer struct{ *rand.Rand }

func dice(from int64) dealer { return dealer{rand.New(rand.NewSource(from))} }

// key is one of few, some at the ends of all keys, some that differ at the last byte alone.
func (d dealer) key() api.Key {
	switch d.Intn(8) {
	case 0:
		return greatest()
	case 1:
		return api.Key{}
	case 2, 3:
		return last(byte(d.Intn(6)))
	default:
		return k(byte(d.Intn(12) * 20))
	}
}

func (d dealer) keys() []api.Key {
	var l []api.Key
	for range d.Intn(5) {
		l = append(l, d.key())
	}
	return l
}

func (d dealer) spans() []api.Span {
	var l []api.Span
	for range d.Intn(4) {
		l = append(l, api.Span{From: d.key(), To: d.key(), End: d.Intn(8) == 0})
	}
	return l
}

// number is about the newest ones, most often.
func (d dealer) number(newest int) int {
	if d.Intn(40) == 0 {
		return []int{math.MinInt, -1, 0, 1, math.MaxInt - 1}[d.Intn(5)]
	}
	return newest + 3 - d.Intn(12)
}

// step is any one, at a log whose last commit is newest.
func (d dealer) step(newest int) step {
	switch d.Intn(9) {
	case 0:
		return step{call: 'p', n: newest - d.Intn(30)}
	case 1:
		return step{call: 'p', n: d.number(newest)}
	case 2, 3, 4:
		return step{call: 'a', n: newest + 3 - d.Intn(5), keys: d.keys()}
	default:
		return step{call: 'c', n: d.number(newest), spans: d.spans()}
	}
}

// TestLongWays (S1): long ways, with few and with many commits known.
func TestLongWays(t *testing.T) {
	for seed := range 60 {
		d := dice(int64(seed))
		first := d.Intn(20) - 5
		l, p := log.New(first), begin(first)
		for range 400 {
			s := d.step(p.last)
			if s.call == 'p' && seed%3 == 0 && d.Intn(6) > 0 {
				continue // so that many stay known
			}
			s.both(t, l, p)
		}
	}
}
