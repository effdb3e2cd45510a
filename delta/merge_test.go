package delta_test

import (
	"testing"

	"wainscot/api"
	"wainscot/delta"
)

// TestMergeOneKey (I3): all that may have become of one key, beside keys that stay.
func TestMergeOneKey(t *testing.T) {
	none := state{}
	of := func(v string) state { return state{v, true} }
	for _, c := range []struct {
		what                     string
		base, theirs, mine, want state
		clash                    bool
	}{
		{"nobody has it", none, none, none, none, false},
		{"all have it", of("a"), of("a"), of("a"), of("a"), false},
		{"all have it, empty", of(""), of(""), of(""), of(""), false},
		{"theirs alone put it", none, of("a"), none, of("a"), false},
		{"theirs alone put it, empty", none, of(""), none, of(""), false},
		{"theirs alone changed it", of("a"), of("b"), of("a"), of("b"), false},
		{"theirs alone took it away", of("a"), none, of("a"), none, false},
		{"theirs alone took it away, empty", of(""), none, of(""), none, false},
		{"mine alone put it", none, none, of("a"), of("a"), false},
		{"mine alone put it, empty", none, none, of(""), of(""), false},
		{"mine alone changed it", of("a"), of("a"), of("b"), of("b"), false},
		{"mine alone took it away", of("a"), of("a"), none, none, false},
		{"mine alone took it away, empty", of(""), of(""), none, none, false},
		{"both put the same", none, of("a"), of("a"), of("a"), false},
		{"both put the same, empty", none, of(""), of(""), of(""), false},
		{"both changed it to the same", of("a"), of("b"), of("b"), of("b"), false},
		{"both took it away", of("a"), none, none, none, false},
		{"both put it otherwise", none, of("a"), of("b"), of("b"), true},
		{"both put it, theirs empty", none, of(""), of("b"), of("b"), true},
		{"both put it, mine empty", none, of("a"), of(""), of(""), true},
		{"both changed it otherwise", of("a"), of("b"), of("c"), of("c"), true},
		{"theirs took it away, mine changed it", of("a"), none, of("b"), of("b"), true},
		{"theirs took it away, mine made it empty", of("a"), none, of(""), of(""), true},
		{"theirs changed it, mine took it away", of("a"), of("b"), none, none, true},
		{"theirs made it empty, mine took it away", of("a"), of(""), none, none, true},
	} {
		with := func(s state) []api.Pair {
			if s.there {
				return pairs(p(9, "z"), p(5, s.value), p(1, "y"))
			}
			return pairs(p(9, "z"), p(1, "y"))
		}
		var clash []api.Key
		if c.clash {
			clash = keys(5)
		}
		got, gotClash := delta.Merge(with(c.base), with(c.theirs), with(c.mine))
		is(t, "Merge: "+c.what, got, delta.Map(with(c.want)))
		is(t, "Merge's clashes: "+c.what, gotClash, clash)

		other, otherClash := delta.Merge(with(c.base), with(c.mine), with(c.theirs))
		is(t, "Merge's clashes, the other way round: "+c.what, otherClash, clash)
		if !c.clash {
			is(t, "Merge, the other way round: "+c.what, other, got)
		}
	}
}

// TestMerge (I3): several keys at once; those that clash rise.
func TestMerge(t *testing.T) {
	two := pairs(p(1, "x"), p(2, "y"))
	for _, c := range []struct {
		what               string
		base, theirs, mine []api.Pair
		want               []api.Pair
		clash              []api.Key
	}{
		{"nothing", nil, nil, nil, nil, nil},
		{"no pairs", pairs(), pairs(), pairs(), nil, nil},
		{"base alone has them", two, nil, nil, nil, nil},
		{"theirs alone has them", nil, two, nil, two, nil},
		{"mine alone has them", nil, nil, two, two, nil},
		{"mine took all away", two, two, nil, nil, nil},
		{"theirs took all away", two, nil, two, nil, nil},
		{"nobody changed anything", two, two, two, two, nil},
		{"both made the same of it", two, pairs(p(2, "z"), p(3, "w")), pairs(p(3, "w"), p(2, "z")), pairs(p(2, "z"), p(3, "w")), nil},
		{"other keys each", two, pairs(p(1, "x"), p(2, "y"), p(5, "n")), pairs(p(2, "mine")), pairs(p(2, "mine"), p(5, "n")), nil},
		{"new keys each", two, pairs(p(3, "t"), p(1, "x"), p(2, "y")), pairs(p(0, "m"), p(1, "x"), p(2, "y")), pairs(p(0, "m"), p(1, "x"), p(2, "y"), p(3, "t")), nil},
		{"each took one away", two, pairs(p(1, "x")), pairs(p(2, "y")), nil, nil},
		{"all clash, told in any order", two, pairs(p(2, "t"), p(3, "t"), p(1, "t")), pairs(p(3, "m"), p(1, "m"), p(2, "m")), pairs(p(1, "m"), p(2, "m"), p(3, "m")), keys(1, 2, 3)},
		{"all that mine took away clash", two, pairs(p(2, "t"), p(1, "t")), nil, nil, keys(1, 2)},
		{"all that theirs took away clash", two, nil, pairs(p(2, "m"), p(1, "m")), pairs(p(1, "m"), p(2, "m")), keys(1, 2)},
		{"some clash", pairs(p(1, "a"), p(2, "b"), p(3, "c"), p(4, "d")), pairs(p(1, "t"), p(2, "t"), p(3, "c")), pairs(p(1, "a"), p(2, "m"), p(4, "m")), pairs(p(1, "t"), p(2, "m"), p(4, "m")), keys(2, 4)},
		{"of several pairs the last counts", pairs(p(1, "o"), p(1, "a")), pairs(p(1, "t"), p(1, "a")), pairs(p(1, "a"), p(1, "m")), pairs(p(1, "m")), nil},
		{"ahead they clash, at last they do not", pairs(p(1, "a")), pairs(p(1, "t"), p(1, "s")), pairs(p(1, "m"), p(1, "s")), pairs(p(1, "s")), nil},
		{"the least key and the greatest clash", nil, pairs(api.Pair{Key: high(0)}, api.Pair{}), pairs(api.Pair{Key: high(0), Value: "m"}, api.Pair{Value: "m"}), pairs(api.Pair{Value: "m"}, api.Pair{Key: high(0), Value: "m"}), []api.Key{{}, high(0)}},
	} {
		got, clash := delta.Merge(c.base, c.theirs, c.mine)
		is(t, "Merge: "+c.what, got, c.want)
		is(t, "Merge's clashes: "+c.what, clash, c.clash)
		is(t, "Apply of Diff to theirs: "+c.what, delta.Apply(c.theirs, delta.Diff(c.base, c.mine)), c.want)

		other, otherClash := delta.Merge(c.base, c.mine, c.theirs)
		is(t, "Merge's clashes, the other way round: "+c.what, otherClash, c.clash)
		if len(c.clash) == 0 {
			is(t, "Merge, the other way round: "+c.what, other, c.want)
		}
	}
}
