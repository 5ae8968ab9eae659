package answers_test

import (
	"math/rand/v2"
	"slices"
	"testing"

	"noctuary/answers"
	"noctuary/api"
	"noctuary/flows"
)

// crowded returns a case with a catch of so many moths, and n records of one of them each.
func crowded(total, n int) api.Case {
	return changed(func(c *api.Case) {
		c.Catches, c.Records = c.Catches[:1], nil
		c.Catches[0].Total = span(0, total)
		for i := range n {
			c.Records = append(c.Records, api.Record{Sheet: one, Line: i, Said: 1, Count: span(1, 2)})
		}
	})
}

// P7.1 (A17): the chapter's examples, and cases with several contradictions.
func TestClash(t *testing.T) {
	nothing := func(c *api.Case, i int) {
		c.Matrix.Rows = []api.Row{{Name: 1, May: []int{1}}}
		c.Records[i].Seen = [][]int{{2}}
	}
	noRecords := []api.Series{{Observer: 6, Said: 1, To: 99, Name: 2, Count: span(1, 2)}}
	cases := []struct {
		what string
		c    api.Case
		want []int
	}{
		{"the example", tight(), []int{0, 1}},
		{"the last two of three", changedOf(crowded(2, 3), func(c *api.Case) { c.Records[1].Count.Lo, c.Records[1].Count.Hi = 2, 2; c.Records[2].Count.Hi = 1 }), []int{0, 1}},
		{"a pair behind", changedOf(crowded(3, 4), func(c *api.Case) { c.Records[1].Count, c.Records[3].Count = span(2, 2), span(2, 2) }), []int{1, 3}},
		{"three of many", crowded(2, 6), []int{0, 1, 2}},
		{"all", crowded(11, 12), numbersFrom(0, 12)},
		{"one that is none", changedOf(crowded(9, 3), func(c *api.Case) { nothing(c, 2); c.Records[0].Said = 2; c.Records[1].Said = 2 }), []int{2}},
		{"one that is none, ahead of others", changedOf(crowded(1, 6), func(c *api.Case) { nothing(c, 5) }), []int{5}},
		{"one that is too much alone", changedOf(crowded(1, 3), func(c *api.Case) { c.Records[1].Count = span(2, 2) }), []int{1}},
		{"a series without records", changed(func(c *api.Case) { c.Series = noRecords }), nil},
		{"a series without records, and more", changedOf(tight(), func(c *api.Case) { c.Series = noRecords }), nil},
		{"a series, and no records at all", changed(func(c *api.Case) { c.Series, c.Records = noRecords, nil }), nil},
		{"a series with too few", changedOf(withSeries(), func(c *api.Case) { c.Series[0].Count = span(0, 1); c.Records[1].Names = []int{2} }), []int{1}},
	}
	for _, x := range cases {
		l, e := answers.Clash(x.c)
		wantSame(t, "Clash of "+x.what, l, e, x.want)
	}
}

// numbersFrom returns the numbers from the first to ahead of the last one.
func numbersFrom(first, last int) []int {
	var out []int
	for i := first; i < last; i++ {
		out = append(out, i)
	}
	return out
}

// P7.1 (A17), R2: ErrNone, and ErrLimit ahead of it.
func TestClashErrors(t *testing.T) {
	wantError(t, "Clash of the sample", resultOf(answers.Clash(sample())), api.ErrNone)
	wantError(t, "Clash of no records", resultOf(answers.Clash(crowded(0, 0))), api.ErrNone)
	wantError(t, "Clash of 12 records", resultOf(answers.Clash(crowded(12, 12))), api.ErrNone)
	wantError(t, "Clash of 13 records", resultOf(answers.Clash(crowded(13, 13))), api.ErrLimit)
	wantError(t, "Clash of 13 records that cannot be right", resultOf(answers.Clash(crowded(1, 13))), api.ErrLimit)
}

// P7.1 (A17), P7.6: of small cases, against all consistent readings.
func TestClashOfAll(t *testing.T) {
	sizes := map[int]int{}
	eachCase(t, func(_ *rand.Rand, c api.Case) {
		k := consistentOf(c)
		l, e := answers.Clash(c)
		if k.has() {
			wantError(t, "Clash", resultOf(l, e), api.ErrNone)
			return
		}
		wantSame(t, "Clash", l, e, k.clash())
		sizes[len(l)]++
		wantTogether(t, c, l)
	})
	if sizes[0] < 20 || sizes[1] < 50 || sizes[2] < 10 || sizes[3] < 1 {
		t.Errorf("sets by their sizes: %v", sizes)
	}
}

// wantTogether checks that records cannot all be right, but can as soon as one of them is uncertain.
func wantTogether(t *testing.T, c api.Case, set []int) {
	t.Helper()
	n, _ := answers.NetOf(c)
	uncertain := func(some []int) bool {
		var arcs []int
		for _, i := range some {
			arcs = append(arcs, 2*len(c.Catches)+i)
		}
		relaxed, _ := flows.Relax(n, arcs)
		is, _ := flows.Feasible(relaxed)
		return is
	}
	var others []int
	for i := range c.Records {
		if !slices.Contains(set, i) {
			others = append(others, i)
		}
	}
	if uncertain(nil) || uncertain(others) {
		t.Errorf("Clash: %v can be right", set)
	}
	for _, i := range set {
		more := append(slices.Clone(others), i)
		slices.Sort(more)
		if !uncertain(more) {
			t.Errorf("Clash: %v cannot be right without %d either", set, i)
		}
	}
}
