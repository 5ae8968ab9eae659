package dots_test

import (
	"math/rand/v2"
	"slices"
	"testing"

	"noctuary/api"
	"noctuary/dots"
)

// P8.1 (D7 to D12): the examples.
func TestToldExamples(t *testing.T) {
	county := []api.Square{sq(2, 0, 0)}
	m := dotMap([]api.Square{sq(1, 0, 0), sq(1, 1, 0)}, county)
	n := dotMap([]api.Square{sq(0, 0, 0), sq(0, 1, 0)}, nil)
	l := []api.DotMap{m}
	a, e := dots.Allowed(county, l, name)
	want(t, "Allowed", a, e, m.Dots)
	is, e := dots.Empty(county, l, name, sq(1, 0, 1))
	want(t, "Empty", is, e, true)
	is, e = dots.Empty(county, l, name, sq(2, 0, 0))
	want(t, "Empty of the county", is, e, false)
	is, e = dots.Empty(county, nil, name, sq(9, 1, 1))
	want(t, "Empty out of the county", is, e, true)
	is, e = dots.Told(county, l, name, sq(1, 0, 0))
	want(t, "Told", is, e, true)
	is, e = dots.Told(county, l, name, sq(0, 0, 0))
	want(t, "Told of a small square", is, e, false)
	is, e = dots.Told(county, l, name, sq(9, 1, 1))
	want(t, "Told out of the county", is, e, false)
	k, e := dots.Finest(county, []api.DotMap{m, n}, name)
	want(t, "Finest", k, e, 0)
	k, e = dots.Finest(county, l, name)
	want(t, "Finest", k, e, 1)
	w, e := dots.World(county, l, name)
	want(t, "World", w, e, []api.Square{sq(0, 0, 0), sq(0, 2, 0)})
	is, e = dots.Holds(county, l, name, []api.Square{sq(0, 2, 1), sq(0, 1, 1), sq(0, 1, 1)})
	want(t, "Holds", is, e, true)
	is, e = dots.Holds(county, l, name, []api.Square{sq(0, 1, 1)})
	want(t, "Holds of one", is, e, false)
	is, e = dots.Holds(county, l, name, []api.Square{sq(0, 1, 1), sq(0, 2, 1), sq(0, 0, 2)})
	want(t, "Holds with one that is empty", is, e, false)
	p, e := dots.Parts(county, []api.DotMap{m, n}, name)
	want(t, "Parts", p, e, [][]api.Square{{sq(1, 1, 0)}, {sq(0, 0, 0)}, {sq(0, 1, 0)}})
}

// P8.1 (D7 to D13): no maps, or those of other names, tell nothing.
func TestNothingTold(t *testing.T) {
	county := []api.Square{sq(0, 9, 9), sq(1, 0, 0)}
	for _, l := range [][]api.DotMap{nil, {{Name: other, Dots: []api.Square{sq(0, 1, 0)}, Region: county}, {Name: other, Region: county}}} {
		a, e := dots.Allowed(county, l, name)
		want(t, "Allowed", a, e, county)
		for _, f := range [][]api.Square{nil, {sq(0, 9, 9)}, smallOf(county)} {
			is, e := dots.Holds(county, l, name, f)
			want(t, "Holds", is, e, true)
		}
		w, e := dots.World(county, l, name)
		want(t, "World", w, e, nil)
		is, e := dots.Told(county, l, name, whole()[0])
		want(t, "Told", is, e, false)
		is, e = dots.Empty(county, l, name, sq(1, 0, 0))
		want(t, "Empty", is, e, false)
		p, e := dots.Parts(county, l, name)
		want(t, "Parts", p, e, nil)
		k, e := dots.Finest(county, l, name)
		wantError(t, "Finest", k, e, api.ErrNone)
	}
	a, e := dots.Allowed(nil, nil, name)
	want(t, "Allowed of no county", a, e, nil)
	is, e := dots.Holds(nil, []api.DotMap{dotMap(nil, whole())}, name, nil)
	want(t, "Holds of no county", is, e, true)
}

// P8.1 (D7, D8) and P8.2: what is allowed, and which sets are worlds.
func TestAllowedAndHolds(t *testing.T) {
	count := map[bool]int{}
	eachScene(t, 1500, 7, func(r *rand.Rand, c scene) {
		a, e := dots.Allowed(c.county, c.maps, name)
		want(t, "Allowed", a, e, regionOf(c.allowed()))
		for f := range c.sets() {
			list := append(someOf(r, f, 2), f...)
			slices.Reverse(list)
			is, e := dots.Holds(c.county, c.maps, name, list)
			want(t, "Holds of "+text(list), is, e, c.isWorld(f))
			count[is]++
		}
		is, e := dots.Holds(c.county, c.maps, name, c.allowed())
		want(t, "Holds of all that is allowed", is, e, c.isTrue())
	})
	if count[true] < 2000 || count[false] < 2000 {
		t.Errorf("Holds: %v", count)
	}
}

// P8.1 (D10, D11, D13) and P8.3: what all worlds tell.
func TestWhatWorldsTell(t *testing.T) {
	count := map[bool]int{}
	eachTrue(t, 1500, 7, func(r *rand.Rand, c scene) {
		worlds := c.worlds()
		finest := api.MaxLevel + 1
		for _, s := range c.squares() {
			isTold, isEmpty := true, true
			for _, w := range worlds {
				isTold, isEmpty = isTold && hasOf(s, w), isEmpty && !hasOf(s, w)
			}
			is, e := dots.Told(c.county, c.maps, name, s)
			want(t, "Told of "+text(s), is, e, isTold)
			count[isTold]++
			is, e = dots.Empty(c.county, c.maps, name, s)
			want(t, "Empty of "+text(s), is, e, isEmpty)
			if isTold {
				finest = min(finest, s.Level)
			}
		}
		k, e := dots.Finest(c.county, c.maps, name)
		if finest > api.MaxLevel {
			wantError(t, "Finest", k, e, api.ErrNone)
		} else {
			want(t, "Finest", k, e, finest)
		}
	})
	if count[true] < 2000 || count[false] < 2000 {
		t.Errorf("Told: %v", count)
	}
}

// leastParts returns the least parts by their definition, as regions.
func (c scene) leastParts() [][]api.Square {
	parts := c.parts()
	var out [][]api.Square
	for i, part := range parts {
		isLess := func(x []api.Square) bool {
			return len(x) < len(part) && !slices.ContainsFunc(x, func(s api.Square) bool { return !slices.Contains(part, s) })
		}
		isKnown := slices.ContainsFunc(parts[:i], func(x []api.Square) bool { return slices.Equal(x, part) })
		if !isKnown && !slices.ContainsFunc(parts, isLess) {
			out = append(out, regionOf(part))
		}
	}
	return out
}

// P8.1 (D9, D12), P8.2 and P8.3: World, and the least parts.
func TestWorldAndParts(t *testing.T) {
	count := 0
	eachTrue(t, 1000, 40, func(r *rand.Rand, c scene) {
		var first []api.Square
		for _, part := range c.parts() {
			first = append(first, part[0])
		}
		w, e := dots.World(c.county, c.maps, name)
		want(t, "World", w, e, sorted(first...))
		is, e := dots.Holds(c.county, c.maps, name, w)
		want(t, "Holds of World", is, e, true)
		p, e := dots.Parts(c.county, c.maps, name)
		want(t, "Parts", p, e, c.leastParts())
		if len(p) < len(c.parts()) {
			count++
		}
		for _, s := range c.squares() {
			isTold, _ := dots.Told(c.county, c.maps, name, s)
			if isTold != slices.ContainsFunc(p, func(part []api.Square) bool { return within(frameOf(smallOf(part)), s) }) {
				t.Errorf("Told of %v: %v; the least parts are %v", s, isTold, p)
			}
			if isEmpty, _ := dots.Empty(c.county, c.maps, name, s); isTold && !hasOf(s, w) || isEmpty && hasOf(s, w) {
				t.Errorf("Told of %v: %v, Empty: %v; a world is %v", s, isTold, isEmpty, w)
			}
			without, e := dots.World(c.county, append(slices.Clone(c.maps), dotMap(nil, []api.Square{s})), name)
			if isTold {
				wantError(t, "World without what is told", without, e, api.ErrFalse)
			} else if e != api.OK || hasOf(s, without) || !c.isWorld(without) {
				t.Errorf("World without %v: %v, error %d", s, without, e)
			}
		}
	})
	if count < 100 {
		t.Errorf("only %d scenes have parts that are not least", count)
	}
}

// P8.1 (D12): equal parts of different dots are told once, where the first dot that has one of them is.
func TestOrderOfParts(t *testing.T) {
	county := []api.Square{sq(0, 4, 0), sq(0, 9, 9), sq(1, 0, 0)}
	l := []api.DotMap{
		dotMap([]api.Square{sq(2, 0, 0), sq(3, 1, 1)}, nil),
		dotMap([]api.Square{sq(0, 4, 0), sq(0, 9, 9), sq(1, 0, 0)}, nil),
		dotMap([]api.Square{sq(3, 0, 0)}, nil),
	}
	p, e := dots.Parts(county, l, name)
	want(t, "Parts", p, e, [][]api.Square{{sq(1, 0, 0)}, {sq(0, 9, 9)}, {sq(0, 4, 0)}})
	w, e := dots.World(county, l, name)
	want(t, "World", w, e, []api.Square{sq(0, 0, 0), sq(0, 4, 0), sq(0, 9, 9)})
}

// P8.1 (D9): the first small square of a part is that of the least Y, wherever it lies, and then of the least X.
func TestFirstSquare(t *testing.T) {
	county := []api.Square{sq(0, 1, 2), sq(0, 6, 2), sq(2, 0, 1), sq(2, 1, 1)}
	for _, x := range []struct{ dot, first api.Square }{
		{sq(3, 0, 0), sq(0, 1, 2)}, {sq(2, 1, 0), sq(0, 6, 2)}, {sq(2, 1, 1), sq(0, 4, 4)}, {sq(1, 3, 3), sq(0, 6, 6)}, {sq(0, 5, 7), sq(0, 5, 7)},
	} {
		w, e := dots.World(county, []api.DotMap{dotMap([]api.Square{x.dot}, nil)}, name)
		want(t, "World", w, e, []api.Square{x.first})
	}
	w, e := dots.World(county[1:], []api.DotMap{dotMap([]api.Square{sq(3, 0, 0)}, []api.Square{sq(0, 6, 2)})}, name)
	want(t, "World", w, e, []api.Square{sq(0, 6, 2)})
}

// P8.1: maps that contradict one another; their parts are empty.
func TestContradictions(t *testing.T) {
	count := 0
	eachScene(t, 1500, 7, func(r *rand.Rand, c scene) {
		if c.isTrue() {
			return
		}
		count++
		if len(c.worlds()) > 0 {
			t.Errorf("there is a world: %v", c.worlds()[0])
		}
		w, e := dots.World(c.county, c.maps, name)
		wantError(t, "World", w, e, api.ErrFalse)
		is, e := dots.Told(c.county, c.maps, name, whole()[0])
		wantError(t, "Told", is, e, api.ErrFalse)
		is, e = dots.Empty(c.county, c.maps, name, whole()[0])
		wantError(t, "Empty", is, e, api.ErrFalse)
		p, e := dots.Parts(c.county, c.maps, name)
		wantError(t, "Parts", p, e, api.ErrFalse)
		k, e := dots.Finest(c.county, c.maps, name)
		wantError(t, "Finest", k, e, api.ErrFalse)
		i, k, e := dots.Audit(c.county, licence(0, 1), c.maps)
		wantError(t, "Audit", [2]int{i, k}, e, api.ErrFalse)
		m, e := dots.Publish(c.county, licence(0, 1), c.maps, nil)
		wantError(t, "Publish", m, e, api.ErrFalse)
	})
	if count < 100 {
		t.Errorf("only %d scenes have maps that contradict one another", count)
	}
}

// P8.4.
func TestFurtherMap(t *testing.T) {
	changes := 0
	eachTrue(t, 1000, 30, func(r *rand.Rand, c scene) {
		further := scene{county: c.county, small: c.small}
		further.maps = append(slices.Clone(c.maps), someMap(r, c, up(pick(r, append(c.small, sq(0, 0, 0))...), 3)))
		if !further.isTrue() {
			return
		}
		for _, s := range c.squares() {
			wasTold, _ := dots.Told(c.county, c.maps, name, s)
			isTold, e := dots.Told(c.county, further.maps, name, s)
			wasEmpty, _ := dots.Empty(c.county, c.maps, name, s)
			isEmpty, f := dots.Empty(c.county, further.maps, name, s)
			if e != api.OK || f != api.OK || wasTold && !isTold || wasEmpty && !isEmpty {
				t.Errorf("Told of %v: %v, now %v; Empty: %v, now %v; errors %d and %d", s, wasTold, isTold, wasEmpty, isEmpty, e, f)
			}
			if isTold != wasTold || isEmpty != wasEmpty {
				changes++
			}
		}
	})
	if changes < 500 {
		t.Errorf("only %d squares changed", changes)
	}
}
