package answers_test

import (
	"math/rand/v2"
	"slices"
	"testing"

	"noctuary/answers"
	"noctuary/api"
	"noctuary/flows"
	"noctuary/places"
)

// withSeries is the sample with the series of the chapter's examples.
func withSeries() api.Case {
	return changed(func(c *api.Case) {
		c.Series = []api.Series{{Observer: 5, Said: 1, To: 99, Name: 2, Count: span(2, 2)}}
	})
}

// P7.1 (A9, A13 to A16): the chapter's examples.
func TestCount(t *testing.T) {
	here := []api.Square{{}}
	for name, want := range map[int]told{
		1: {count: span(4, 8), first: span(10, 10), last: span(10, 10), sure: here, may: here},
		2: {count: span(0, 5), first: span(10, -1), last: span(-1, 12), may: here},
		3: {count: span(0, 0), first: span(-1, -1), last: span(-1, -1)},
	} {
		wantTold(t, sample(), name, want)
	}
	for name, want := range map[int]told{
		1: {count: span(4, 6), first: span(10, 10), last: span(10, 10), sure: here, may: here},
		2: {count: span(2, 5), first: span(10, 10), last: span(10, 12), sure: here, may: here},
		3: {count: span(0, 0), first: span(-1, -1), last: span(-1, -1)},
	} {
		wantTold(t, withSeries(), name, want)
	}
}

// P7.1 (A9): example 7 of the document.
func TestCountOfASplit(t *testing.T) {
	c := changed(func(c *api.Case) {
		c.Book = api.NameBook{First: []int{1, 2}, Changes: []api.Change{{Year: 5, From: []int{1}, To: []int{3, 4}}}}
		c.Records = c.Records[:1]
	})
	for name, want := range map[int]api.Span{2: {}, 3: span(0, 6), 4: span(0, 6)} {
		s, e := answers.Count(c, name)
		wantSame(t, "Count", s, e, want)
	}
	wantError(t, "Count of the name that was split", resultOf(answers.Count(c, 1)), api.ErrArg)
}

// wantTold checks all answers about a name but Where.
func wantTold(t *testing.T, c api.Case, name int, want told) {
	t.Helper()
	s, e := answers.Count(c, name)
	wantSame(t, "Count", s, e, want.count)
	s, e = answers.First(c, name)
	wantSame(t, "First", s, e, want.first)
	s, e = answers.LastOf(c, name)
	wantSame(t, "LastOf", s, e, want.last)
	l, e := answers.Sure(c, name)
	wantSame(t, "Sure", l, e, want.sure)
	l, e = answers.May(c, name)
	wantSame(t, "May", l, e, want.may)
}

// someRegion returns a region of some of the squares of small cases, and of others.
func someRegion(r *rand.Rand) []api.Square {
	return pick(r, nil, whole(), regionOf([]api.Square{{Level: 1}}), regionOf([]api.Square{{Level: 2, X: 1}}),
		regionOf([]api.Square{square(0, 0), square(r.IntN(2), r.IntN(2)), square(5, 5)}), regionOf([]api.Square{square(r.IntN(2), r.IntN(2)), {Level: 3, X: 1, Y: 1}}))
}

func someNights(r *rand.Rand) api.Span { return pick(r, always(), someSpan(r, 3), someSpan(r, 3)) }

// insideOf tells which catches are in a region and nights by the chapter's words.
func insideOf(region []api.Square, nights api.Span) func(api.Catch) bool {
	return func(x api.Catch) bool {
		has, _ := places.Has(region, x.Square)
		return has && nights.Lo <= x.Night && x.Night <= nights.Hi
	}
}

// P7.1 (A9, A10, A13 to A16), P7.2, P7.4, P7.5: of small cases, against all consistent readings.
func TestAnswersOfAll(t *testing.T) {
	without, surely := 0, 0
	eachCase(t, func(r *rand.Rand, c api.Case) {
		region, nights := someRegion(r), someNights(r)
		want, possible := tell(c, insideOf(region, nights))
		if !possible {
			without++
			for what, f := range withFlow() {
				wantError(t, what, f(c, arguments{name: pick(r, now(c)...), region: region, nights: nights, now: nights}), api.ErrClash)
			}
			return
		}
		for _, name := range now(c) {
			wantTold(t, c, name, want[name])
			s, e := answers.Where(c, name, region, nights)
			wantSame(t, "Where", s, e, want[name].where)
			surely += len(want[name].sure)
		}
	})
	if without < 200 || surely < 300 {
		t.Errorf("%d cases are not possible; %d squares are sure", without, surely)
	}
}

// P7.1 (A11, A12), P7.2: shares with both ends of Count, and what they give.
func TestShares(t *testing.T) {
	eachPossible(t, func(r *rand.Rand, c api.Case) {
		n, arc := netOf(c), len(netOf(c).Arcs)-len(now(c))
		for i, name := range now(c) {
			count, _ := answers.Count(c, name)
			for most, want := range map[bool]int{false: count.Lo, true: count.Hi} {
				f, e := answers.Shares(c, name, most)
				if e != api.OK || flows.Keeps(n, f) != api.OK || f[arc+i] != want {
					t.Errorf("Shares of %d: %v, error %d; want %d", name, f, e, want)
				}
				wantGiven(t, c, f, name)
			}
		}
		wantGiven(t, c, make([]int, len(n.Arcs)), pick(r, now(c)...))
	})
}

// wantGiven checks Given of all records.
func wantGiven(t *testing.T, c api.Case, f []int, name int) {
	t.Helper()
	for i := range c.Records {
		k, e := answers.Given(c, f, i, name)
		switch at := arcOf(c, i, name); {
		case flows.Keeps(netOf(c), f) != api.OK:
			wantError(t, "Given by no shares", resultOf(k, e), api.ErrShare)
		case at < 0:
			wantError(t, "Given to no candidate", resultOf(k, e), api.ErrNone)
		default:
			wantSame(t, "Given", k, e, f[at])
		}
	}
}

// P7.1 (A12): the chapter's case, and numbers that are no shares.
func TestGiven(t *testing.T) {
	f := []int{7, 3, 1, 0, 4, 2, 3, 4, 0, 2, 3, 4, 5, 0}
	for at, want := range map[[2]int]int{{0, 1}: 4, {1, 1}: 0, {1, 2}: 2, {2, 2}: 3} {
		k, e := answers.Given(sample(), f, at[0], at[1])
		wantSame(t, "Given", k, e, want)
	}
	for _, at := range [][2]int{{0, 2}, {0, 3}, {1, 3}, {2, 1}} {
		wantError(t, "Given to no candidate", resultOf(answers.Given(sample(), f, at[0], at[1])), api.ErrNone)
	}
	for what, bad := range map[string]func(l []int) []int{
		"none":                   func(l []int) []int { return nil },
		"one too few":            func(l []int) []int { return l[:13] },
		"one too many":           func(l []int) []int { return append(l, 0) },
		"a node with too much":   func(l []int) []int { l[0]++; return l },
		"more than was counted":  func(l []int) []int { l[0], l[4], l[7], l[11] = 10, 7, 7, 7; return l },
		"less than was counted":  func(l []int) []int { l[0], l[4], l[7], l[11] = 6, 3, 3, 3; return l },
		"less than nothing":      func(l []int) []int { l[8], l[9], l[11], l[12] = -1, 3, 3, 6; return l },
		"more moths than caught": func(l []int) []int { l[0], l[2] = 21, 15; return l },
		"the greatest ints":      func(l []int) []int { return slices.Repeat([]int{huge}, 14) },
		"the least ints":         func(l []int) []int { return slices.Repeat([]int{-huge - 1}, 14) },
	} {
		l := bad(slices.Clone(f))
		wantError(t, "Given by "+what, resultOf(answers.Given(sample(), l, 1, 2)), api.ErrShare)
		wantError(t, "Given to no candidate by "+what, resultOf(answers.Given(sample(), l, 0, 3)), api.ErrShare)
	}
	wantError(t, "Given by shares of another case", resultOf(answers.Given(tight(), f, 1, 2)), api.ErrShare)
}

// P7.1 (A10): the chapter's example; regions and nights.
func TestWhere(t *testing.T) {
	c := changed(func(c *api.Case) { c.Catches[1].Square = square(3, 5) })
	cases := []struct {
		what   string
		name   int
		region []api.Square
		nights api.Span
		want   api.Span
	}{
		{"the example", 2, whole(), span(12, 12), span(0, 3)},
		{"all", 2, whole(), always(), span(0, 5)},
		{"nights up to the first", 2, whole(), span(0, 10), span(0, 2)},
		{"nights between", 2, whole(), span(11, 11), span(0, 0)},
		{"nights from the second", 2, whole(), span(11, api.MaxDay), span(0, 3)},
		{"no region", 2, nil, always(), span(0, 0)},
		{"a square of a catch", 1, []api.Square{{}}, always(), span(4, 8)},
		{"the square of the other one", 2, []api.Square{square(3, 5)}, always(), span(0, 3)},
		{"a square around it", 2, []api.Square{{Level: 1, X: 1, Y: 2}}, always(), span(0, 3)},
		{"a square beside it", 2, []api.Square{{Level: 1, X: 2, Y: 1}}, always(), span(0, 0)},
		{"several squares", 2, []api.Square{{X: 9}, {Level: 2, Y: 1}}, always(), span(0, 3)},
		{"a place and the nights of another one", 2, []api.Square{{}}, span(12, 12), span(0, 0)},
		{"another name", 3, whole(), always(), span(0, 0)},
	}
	for _, x := range cases {
		s, e := answers.Where(c, x.name, x.region, x.nights)
		wantSame(t, "Where of "+x.what, s, e, x.want)
	}
}

// P7.1 (A13, A14): what several nights tell together.
func TestNightsTogether(t *testing.T) {
	// Of the moths of three nights that may be 2, a series says that two or three are: at most two of the night 1, and two of the night 3.
	c := changed(func(c *api.Case) {
		c.Catches, c.Records = nil, nil
		for i, night := range []int{5, 1, 3} {
			c.Catches = append(c.Catches, api.Catch{Sheet: name(1, 1+i), Observer: 5, Square: square(i, 0), Night: night, Lamp: 7, Total: span(0, 2)})
			c.Records = append(c.Records, api.Record{Sheet: name(1, 1+i), Said: 1, Count: span(0, 2), Names: []int{1, 2}})
		}
		c.Series = []api.Series{{Observer: 5, Said: 1, To: 99, Name: 2, Count: span(3, 3)}}
	})
	s, e := answers.First(c, 2)
	wantSame(t, "First", s, e, span(1, 3))
	s, e = answers.LastOf(c, 2)
	wantSame(t, "LastOf", s, e, span(3, 5))
	l, e := answers.Sure(c, 2)
	wantSame(t, "Sure", l, e, nil)
	l, e = answers.May(c, 2)
	wantSame(t, "May", l, e, []api.Square{square(0, 0), square(1, 0), square(2, 0)})
	// No single record must be 2, but those of one square must together.
	for i := range c.Catches {
		c.Catches[i].Square = square(min(i, 1), 7)
	}
	l, e = answers.Sure(c, 2)
	wantSame(t, "Sure of several records together", l, e, []api.Square{square(1, 7)})
	c.Series[0].Count = span(5, 5)
	l, e = answers.Sure(c, 2)
	wantSame(t, "Sure", l, e, []api.Square{square(0, 7), square(1, 7)})
	s, e = answers.First(c, 2)
	wantSame(t, "First", s, e, span(1, 1))
	s, e = answers.LastOf(c, 2)
	wantSame(t, "LastOf", s, e, span(5, 5))
}

// P7.1 (A15, A16): four squares are told as one.
func TestSureAsARegion(t *testing.T) {
	c := changed(func(c *api.Case) { c.Catches, c.Records = nil, nil })
	for i, at := range []api.Square{square(3, 3), square(2, 2), square(3, 2), square(2, 3), square(3, 3), square(0, 9)} {
		c.Catches = append(c.Catches, api.Catch{Sheet: name(1, 1+i), Observer: 5, Square: at, Lamp: 7, Total: span(0, 2)})
		c.Records = append(c.Records, api.Record{Sheet: name(1, 1+i), Said: 1, Count: span(1, 2)})
	}
	c.Records[5].Count.Lo = 0
	l, e := answers.Sure(c, 1)
	wantSame(t, "Sure", l, e, []api.Square{{Level: 1, X: 1, Y: 1}})
	l, e = answers.May(c, 1)
	wantSame(t, "May", l, e, []api.Square{square(0, 9), {Level: 1, X: 1, Y: 1}})
	c.Records[5].State = api.StateRejected
	l, e = answers.May(c, 1)
	wantSame(t, "May of what is rejected", l, e, []api.Square{{Level: 1, X: 1, Y: 1}})
}
