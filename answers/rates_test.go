package answers_test

import (
	"math/big"
	"math/rand/v2"
	"testing"

	"noctuary/answers"
	"noctuary/api"
)

// spread is the sample with the catches in two squares, and another lamp in the second one.
func spread() api.Case {
	return changed(func(c *api.Case) {
		c.Lamps = append(c.Lamps, api.Lamp{ID: 9, Power: 15})
		c.Catches[1].Square, c.Catches[1].Lamp = square(3, 5), 9
	})
}

// P7.1 (A18): the chapter's example; regions and nights.
func TestEffort(t *testing.T) {
	n, e := answers.Effort(sample(), whole(), span(0, 99))
	wantSame(t, "Effort", n, e, 200)
	cases := []struct {
		what   string
		region []api.Square
		nights api.Span
		want   int
	}{
		{"all", whole(), always(), 115},
		{"no region", nil, always(), 0},
		{"nights ahead", whole(), span(0, 9), 0},
		{"nights up to the first", whole(), span(0, 10), 100},
		{"nights from the first", whole(), span(10, 11), 100},
		{"nights up to the second", whole(), span(11, 12), 15},
		{"nights from the second", whole(), span(12, 99), 15},
		{"nights behind", whole(), span(13, api.MaxDay), 0},
		{"a square", []api.Square{{}}, always(), 100},
		{"a square around", []api.Square{{Level: 1, X: 1, Y: 2}}, always(), 15},
		{"a square around both", []api.Square{{Level: 3}}, always(), 115},
		{"squares of two levels", []api.Square{{}, {Level: 1, X: 1, Y: 2}}, always(), 115},
		{"other squares", []api.Square{square(5, 3), {Level: 1, X: 1, Y: 1}}, always(), 0},
		{"a place and the nights of another one", []api.Square{{}}, span(12, 12), 0},
	}
	for _, x := range cases {
		n, e := answers.Effort(spread(), x.region, x.nights)
		wantSame(t, "Effort of "+x.what, n, e, x.want)
	}
	n, e = answers.Effort(tight(), whole(), always())
	wantSame(t, "Effort of what is not possible", n, e, 200)
	n, e = answers.Effort(great(), whole(), always())
	wantSame(t, "Effort of what is too great", n, e, 100)
	// Sheets without records count as well, and twins.
	n, e = answers.Effort(changed(func(c *api.Case) { c.Records = nil; c.Catches[1] = c.Catches[0]; c.Catches[1].Sheet = two }), whole(), always())
	wantSame(t, "Effort without records", n, e, 200)
}

func ratio(num, den int) api.Ratio { return api.Ratio{Num: num, Den: den} }

// P7.1 (A19): the chapter's example; lowest terms.
func TestIndex(t *testing.T) {
	cases := []struct {
		what   string
		name   int
		nights api.Span
		want   [2]api.Ratio
	}{
		{"the example", 1, span(0, 99), [2]api.Ratio{ratio(1, 50), ratio(1, 25)}},
		{"less", 2, span(0, 99), [2]api.Ratio{ratio(0, 1), ratio(1, 40)}},
		{"one night", 1, span(10, 10), [2]api.Ratio{ratio(1, 25), ratio(2, 25)}},
		{"another night", 1, span(12, 12), [2]api.Ratio{ratio(0, 1), ratio(0, 1)}},
		{"what has no common divisor", 2, span(12, 12), [2]api.Ratio{ratio(0, 1), ratio(3, 100)}},
		{"nothing", 3, always(), [2]api.Ratio{ratio(0, 1), ratio(0, 1)}},
	}
	for _, x := range cases {
		l, e := index(sample(), x.name, whole(), x.nights)
		wantSame(t, "Index of "+x.what, l, e, x.want)
	}
	for _, nights := range []api.Span{span(0, 9), span(11, 11), span(13, api.MaxDay)} {
		wantError(t, "Index without effort", resultOf(index(sample(), 1, whole(), nights)), api.ErrEffort)
	}
	wantError(t, "Index of no region", resultOf(index(sample(), 3, nil, always())), api.ErrEffort)
	// More moths than the power of the lamps.
	l, e := index(changed(func(c *api.Case) { c.Lamps[0].Power = 3 }), 1, whole(), span(10, 10))
	wantSame(t, "Index above 1", l, e, [2]api.Ratio{ratio(4, 3), ratio(8, 3)})
	l, e = index(changed(func(c *api.Case) { c.Lamps[0].Power = 2 }), 1, whole(), span(10, 10))
	wantSame(t, "Index of whole numbers", l, e, [2]api.Ratio{ratio(2, 1), ratio(4, 1)})
}

// P7.1 (A20), P7.9: more, fewer and neither.
func TestChange(t *testing.T) {
	with := func(first, second api.Span, power int) api.Case {
		return changedOf(spread(), func(c *api.Case) {
			c.Lamps[1].Power = power
			c.Catches[0].Total, c.Catches[1].Total = span(0, api.MaxCount), span(0, api.MaxCount)
			c.Records = []api.Record{{Sheet: one, Said: 1, Count: first}, {Sheet: two, Said: 1, Count: second}}
		})
	}
	cases := []struct {
		what string
		c    api.Case
		want int
	}{
		{"more", with(span(1, 3), span(4, 5), 100), 1},
		{"no more than at most", with(span(1, 4), span(4, 5), 100), 0},
		{"fewer", with(span(4, 5), span(1, 3), 100), -1},
		{"no fewer than at least", with(span(3, 5), span(1, 3), 100), 0},
		{"perhaps", with(span(1, 9), span(4, 5), 100), 0},
		{"the same", with(span(4, 4), span(4, 4), 100), 0},
		{"the same by more effort", with(span(4, 4), span(8, 8), 200), 0},
		{"as many by more effort", with(span(4, 4), span(4, 4), 101), -1},
		{"as many by less effort", with(span(4, 4), span(4, 4), 99), 1},
		{"more by still more effort", with(span(4, 4), span(7, 7), 200), -1},
		{"hardly more", with(span(100, 100), span(100000, 100000), 9999), 1},
		{"hardly less", with(span(1, 1), span(99, 99), 10000), -1},
		{"none at all", with(span(0, 0), span(0, 0), 1), 0},
		{"some after none", with(span(0, 0), span(1, 1), 10000), 1},
	}
	for _, x := range cases {
		n, e := answers.Change(x.c, 1, whole(), span(0, 10), span(11, 99))
		wantSame(t, "Change to "+x.what, n, e, x.want)
		n, e = answers.Change(x.c, 1, whole(), span(11, 99), span(0, 10))
		wantSame(t, "Change back from "+x.what, n, e, -x.want)
	}
	wantError(t, "Change from no effort", resultOf(answers.Change(sample(), 1, whole(), span(0, 9), span(10, 12))), api.ErrEffort)
	wantError(t, "Change to no effort", resultOf(answers.Change(sample(), 1, whole(), span(10, 12), span(0, 9))), api.ErrEffort)
	wantError(t, "Change in no region", resultOf(answers.Change(sample(), 1, nil, always(), always())), api.ErrEffort)
	n, e := answers.Change(sample(), 1, whole(), span(10, 10), span(12, 12))
	wantSame(t, "Change", n, e, -1)
	n, e = answers.Change(spread(), 1, []api.Square{{}}, span(10, 10), span(10, 12))
	wantSame(t, "Change in a square", n, e, 0)
}

// P7.1 (A18 to A20), P7.9: of small cases, against the chapter's words.
func TestRatesOfAll(t *testing.T) {
	kinds := map[int]int{}
	eachPossible(t, func(r *rand.Rand, c api.Case) {
		region, old, later := pick(r, whole(), someRegion(r)), someNights(r), someNights(r)
		for _, nights := range []api.Span{old, later} {
			n, e := answers.Effort(c, region, nights)
			wantSame(t, "Effort", n, e, effortOf(c, insideOf(region, nights)))
		}
		for _, name := range now(c) {
			a, right := wantIndex(t, c, name, region, old)
			b, also := wantIndex(t, c, name, region, later)
			n, e := answers.Change(c, name, region, old, later)
			if !right || !also {
				wantError(t, "Change", resultOf(n, e), api.ErrEffort)
				continue
			}
			want := 0
			if b[0].Cmp(a[1]) > 0 {
				want = 1
			} else if b[1].Cmp(a[0]) < 0 {
				want = -1
			}
			wantSame(t, "Change", n, e, want)
			kinds[want]++
			n, e = answers.Change(c, name, region, later, old)
			wantSame(t, "Change back", n, e, -want)
		}
	})
	if kinds[1] < 20 || kinds[-1] < 20 || kinds[0] < 100 {
		t.Errorf("changes: %v", kinds)
	}
}

// effortOf is Effort by the chapter's words.
func effortOf(c api.Case, isIn func(api.Catch) bool) int {
	sum := 0
	for _, x := range c.Catches {
		for _, lamp := range c.Lamps {
			if isIn(x) && lamp.ID == x.Lamp {
				sum += lamp.Power
			}
		}
	}
	return sum
}

// wantIndex checks Index against Where and Effort, and returns both ends, if there was an effort.
func wantIndex(t *testing.T, c api.Case, name int, region []api.Square, nights api.Span) (ends [2]*big.Rat, right bool) {
	t.Helper()
	s, _ := answers.Where(c, name, region, nights)
	effort := effortOf(c, insideOf(region, nights))
	l, e := index(c, name, region, nights)
	if effort == 0 {
		wantError(t, "Index", resultOf(l, e), api.ErrEffort)
		return ends, false
	}
	var want [2]api.Ratio
	for i, n := range []int{s.Lo, s.Hi} {
		ends[i] = big.NewRat(int64(n), int64(effort))
		want[i] = ratio(int(ends[i].Num().Int64()), int(ends[i].Denom().Int64()))
	}
	wantSame(t, "Index", l, e, want)
	return ends, true
}
