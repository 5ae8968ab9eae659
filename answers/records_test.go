package answers_test

import (
	"math/rand/v2"
	"slices"
	"testing"

	"noctuary/answers"
	"noctuary/api"
	"noctuary/flows"
)

// P7.1 (A2, A3): the chapter's examples, changes of the book, and vouchers.
func TestCandidates(t *testing.T) {
	for i, want := range [][]int{{1}, {1, 2}, {2}} {
		l, e := answers.Candidates(sample(), i)
		wantSame(t, "Candidates", l, e, want)
	}
	// The voucher {3, 2} of the second record is no 4 (whose states of the second character are 0 and 2), and may be 1; 5 has no row.
	all, e := answers.Candid(rich())
	wantSame(t, "Candid", all, e, [][]int{{1}, {1, 5}, {4, 5}, {6}})
	none, e := answers.Candid(changed(func(c *api.Case) { c.Records = nil }))
	wantSame(t, "Candid of no records", none, e, nil)
}

// P7.1 (A2): Names instead of Said, rows and vouchers.
func TestCandidatesWithVouchers(t *testing.T) {
	matrix := api.Matrix{States: []int{2, 3}, Rows: []api.Row{{Name: 1, May: []int{1, 7}}, {Name: 2, May: []int{3, 6}}}}
	cases := []struct {
		what        string
		names, want []int
		seen        [][]int
	}{
		{"nothing seen", []int{1, 2, 3}, []int{1, 2, 3}, nil},
		{"all seen", []int{1, 2, 3}, []int{1, 2, 3}, [][]int{{3, 7}}},
		{"no 1", []int{1, 2, 3}, []int{2, 3}, [][]int{{2, 7}}},
		{"no 2", []int{1, 2, 3}, []int{1, 3}, [][]int{{3, 1}}},
		{"one voucher is no 1, another one no 2", []int{1, 2, 3}, []int{3}, [][]int{{3, 7}, {2, 7}, {3, 1}}},
		{"vouchers of two specimens", []int{1, 2}, []int{2}, [][]int{{1, 2}, {2, 4}}},
		{"each fits, but not together", []int{1}, []int{1}, [][]int{{3, 1}, {3, 2}, {3, 4}}},
		{"nothing left", []int{1}, nil, [][]int{{2, 1}}},
		{"other names than what was said", []int{3}, []int{3}, [][]int{{2, 1}}},
		{"no names: what was said", nil, []int{1}, nil},
		{"no names, and no 1", nil, nil, [][]int{{2, 1}}},
	}
	for _, x := range cases {
		c := changed(func(c *api.Case) { c.Matrix, c.Records[1].Names, c.Records[1].Seen = matrix, x.names, x.seen })
		l, e := answers.Candidates(c, 1)
		wantSame(t, "Candidates with "+x.what, l, e, x.want)
	}
}

// P7.1 (A4).
func TestTaken(t *testing.T) {
	for state, want := range []api.Span{span(4, 6), span(4, 6), span(0, 6), span(0, 0)} {
		s, e := answers.Taken(changed(func(c *api.Case) { c.Records[0].State = state }), 0)
		wantSame(t, "Taken", s, e, want)
	}
}

// P7.1 (A5): the chapter's example, and all that a record and a series must have in common.
func TestSeriesOf(t *testing.T) {
	with := func(change func(c *api.Case)) api.Case {
		return changed(func(c *api.Case) {
			c.Book.Changes = []api.Change{{Year: 7, From: []int{3}, To: []int{4}}}
			c.Series = []api.Series{{Observer: 5, Said: 1, To: 99, Name: 2, Count: span(2, 2)}}
			change(c)
		})
	}
	another := api.Series{Observer: 5, Said: 1, From: 10, To: 10, Name: 2}
	cases := []struct {
		what   string
		change func(c *api.Case)
		want   int // -1: none
	}{
		{"the example", func(c *api.Case) {}, 0},
		{"another observer", func(c *api.Case) { c.Series[0].Observer = 6 }, -1},
		{"another thing said", func(c *api.Case) { c.Series[0].Said = 2 }, -1},
		{"another year", func(c *api.Case) { c.Series[0].Year = 1 }, -1},
		{"the same other year", func(c *api.Case) { c.Series[0].Year, c.Records[1].Year = 1, 1 }, 0},
		{"other years of one version", func(c *api.Case) { c.Records[1].Year = 2 }, -1},
		{"another name", func(c *api.Case) { c.Series[0].Name = 1 }, -1},
		{"no such candidate", func(c *api.Case) { c.Records[1].Names = []int{1} }, -1},
		{"nights that begin with it", func(c *api.Case) { c.Series[0].From = 10 }, 0},
		{"nights that end with it", func(c *api.Case) { c.Series[0].To = 10 }, 0},
		{"later nights", func(c *api.Case) { c.Series[0].From = 11 }, -1},
		{"earlier nights", func(c *api.Case) { c.Series[0].To = 9 }, -1},
		{"accepted", func(c *api.Case) { c.Records[1].State = api.StateAccepted }, 0},
		{"queried", func(c *api.Case) { c.Records[1].State = api.StateQueried }, 0},
		{"rejected", func(c *api.Case) { c.Records[1].State = api.StateRejected }, -1},
		{"the first one of two", func(c *api.Case) { c.Series = append(c.Series, another) }, 0},
		{"the second one of two", func(c *api.Case) { c.Series[0].To = 9; c.Series = append(c.Series, another) }, 1},
		{"one ahead that does not count", func(c *api.Case) {
			c.Book.Changes = append(c.Book.Changes, api.Change{Year: 9, From: []int{4}, To: []int{4, 5}})
			c.Series = append([]api.Series{{Observer: 5, Said: 1, To: 99, Name: 3}}, c.Series...)
		}, 1},
		{"a name that is split later", func(c *api.Case) {
			c.Book.Changes = append(c.Book.Changes, api.Change{Year: 9, From: []int{2}, To: []int{2, 5}})
		}, -1},
		{"a name that is lumped later", func(c *api.Case) {
			c.Book.Changes = append(c.Book.Changes, api.Change{Year: 9, From: []int{1, 2}, To: []int{2}})
		}, -1},
	}
	for _, x := range cases {
		i, e := answers.SeriesOf(with(x.change), 1, 2)
		if x.want < 0 {
			wantError(t, "SeriesOf of "+x.what, resultOf(i, e), api.ErrNone)
		} else {
			wantSame(t, "SeriesOf of "+x.what, i, e, x.want)
		}
	}
	renamed := with(func(c *api.Case) { c.Series[0].Name, c.Records[1].Names = 3, []int{1, 3} })
	i, e := answers.SeriesOf(renamed, 1, 4)
	wantSame(t, "SeriesOf of a name that is renamed", i, e, 0)
	wantError(t, "SeriesOf of the old name", resultOf(answers.SeriesOf(renamed, 1, 3)), api.ErrArg)
}

// P7.1 (A2 to A8): of small cases of all kinds, against the chapter's words.
func TestRecordsOfAll(t *testing.T) {
	belong, possible := 0, 0
	eachCase(t, func(_ *rand.Rand, c api.Case) {
		wantSame(t, "Check", 0, answers.Check(c), 0)
		var all [][]int
		for i, x := range c.Records {
			want := candidatesOf(c, x)
			all = append(all, want)
			l, e := answers.Candidates(c, i)
			wantSame(t, "Candidates", l, e, want)
			s, e := answers.Taken(c, i)
			wantSame(t, "Taken", s, e, takenOf(x))
			for _, name := range now(c) {
				if wantBelongs(t, c, i, name) {
					belong++
				}
				wantArc(t, c, i, name)
			}
		}
		l, e := answers.Candid(c)
		wantSame(t, "Candid", l, e, all)
		n, e := answers.NetOf(c)
		wantSame(t, "NetOf", n, e, netOf(c))
		want := consistentOf(c).has()
		is, e := answers.Possible(c)
		wantSame(t, "Possible", is, e, want)
		if want {
			possible++
		}
	})
	if belong < 300 || possible < 800 || possible > 1800 {
		t.Errorf("%d records belong to series, %d of 2000 cases are possible", belong, possible)
	}
}

// wantBelongs checks SeriesOf, and reports whether the record belongs to one.
func wantBelongs(t *testing.T, c api.Case, record, name int) bool {
	t.Helper()
	want := seriesOf(c, c.Records[record], name)
	i, e := answers.SeriesOf(c, record, name)
	if want < 0 {
		wantError(t, "SeriesOf", resultOf(i, e), api.ErrNone)
		return false
	}
	wantSame(t, "SeriesOf", i, e, want)
	return true
}

func wantArc(t *testing.T, c api.Case, record, name int) {
	t.Helper()
	want := arcOf(c, record, name)
	i, e := answers.Arc(c, record, name)
	if want < 0 {
		wantError(t, "Arc", resultOf(i, e), api.ErrNone)
		return
	}
	wantSame(t, "Arc", i, e, want)
}

// P7.1 (A6, A7): the chapter's examples.
func TestNetOf(t *testing.T) {
	want := api.Net{Nodes: 9, Arcs: []api.Arc{
		{From: 0, To: 1, Lo: 0, Hi: 20}, {From: 0, To: 2, Lo: 3, Hi: 4},
		{From: 1, To: 0, Hi: 20}, {From: 2, To: 0, Hi: 4},
		{From: 1, To: 3, Lo: 4, Hi: 6}, {From: 1, To: 4, Lo: 2, Hi: 2}, {From: 2, To: 5, Hi: 3},
		{From: 3, To: 6, Hi: 6}, {From: 4, To: 6, Hi: 2}, {From: 4, To: 7, Hi: 2}, {From: 5, To: 7, Hi: 3},
		{From: 6, To: 0, Hi: unbounded}, {From: 7, To: 0, Hi: unbounded}, {From: 8, To: 0, Hi: unbounded},
	}}
	n, e := answers.NetOf(sample())
	wantSame(t, "NetOf", n, e, want)
	i, e := answers.Arc(sample(), 1, 2)
	wantSame(t, "Arc", i, e, 9)
	wantError(t, "Arc of no candidate", resultOf(answers.Arc(sample(), 2, 1)), api.ErrNone)
	n, e = answers.NetOf(rich())
	wantSame(t, "NetOf of the rich sample", n, e, netOf(rich()))
	n, e = answers.NetOf(tight())
	want.Arcs[0].Hi, want.Arcs[2].Hi = 5, 5
	wantSame(t, "NetOf of what is not possible", n, e, want)
	// The series stands between the records and the names.
	n, e = answers.NetOf(changed(func(c *api.Case) {
		c.Series = []api.Series{{Observer: 5, Said: 1, To: 99, Name: 2, Count: span(2, 3)}}
	}))
	if e != api.OK || n.Nodes != 10 || len(n.Arcs) != 15 || n.Arcs[9] != (api.Arc{From: 4, To: 6, Hi: 2}) || n.Arcs[10] != (api.Arc{From: 5, To: 8, Hi: 3}) || n.Arcs[11] != (api.Arc{From: 6, To: 8, Lo: 2, Hi: 3}) {
		t.Errorf("NetOf with a series: %v, error %d", n, e)
	}
}

// manyShares returns a case with records of 400, and one of fewer names, whose net has so many arcs beyond the most that there may be.
func manyShares(beyond, total int) api.Case {
	c := changed(func(c *api.Case) { c.Book.First, c.Catches, c.Records = numbers(api.MaxNames), c.Catches[:1], nil })
	c.Catches[0].Total = span(0, total)
	left := api.MaxArcs + beyond - 2 - api.MaxNames
	for left > 0 {
		n := min(api.MaxNames, left-1)
		c.Records = append(c.Records, api.Record{Sheet: one, Line: len(c.Records), Said: 1, Count: span(1, 2), Names: numbers(n)})
		left -= 1 + n
	}
	return c
}

// P7.1 (A6): the limit of the arcs.
func TestGreatNets(t *testing.T) {
	n, e := answers.NetOf(manyShares(0, 20))
	if e != api.OK || len(n.Arcs) != api.MaxArcs || flows.Check(n) != api.OK {
		t.Errorf("NetOf of the most arcs: %d arcs, error %d", len(n.Arcs), e)
	}
	is, e := answers.Possible(manyShares(0, 20))
	wantSame(t, "Possible", is, e, true)
	is, e = answers.Possible(manyShares(0, 18))
	wantSame(t, "Possible", is, e, false)
	for what, f := range withNet() {
		if got := f(manyShares(0, 20), right()); got.e == api.ErrLimit && what != "Clash" {
			t.Errorf("%s of the most arcs: error %d", what, got.e)
		}
		wantError(t, what+" of one arc too many", f(manyShares(1, 20), right()), api.ErrLimit)
	}
	l, e := answers.Candid(manyShares(1, 20))
	if e != api.OK || len(l) != 19 || !slices.Equal(l[0], numbers(api.MaxNames)) {
		t.Errorf("Candid of one arc too many: %d lists, error %d", len(l), e)
	}
}

// P7.1 (A8): the chapter's example.
func TestPossible(t *testing.T) {
	for what, x := range map[string]struct {
		c    api.Case
		want bool
	}{
		"the sample":               {sample(), true},
		"a catch that is too full": {tight(), false},
		"a catch that is full":     {changed(func(c *api.Case) { c.Catches[0].Total.Hi = 6 }), true},
		"the same, but queried":    {changedOf(tight(), func(c *api.Case) { c.Records[1].State = api.StateQueried }), true},
		"the same, but rejected":   {changedOf(tight(), func(c *api.Case) { c.Records[0].State = api.StateRejected }), true},
		"a record that is nothing": {changed(func(c *api.Case) {
			c.Matrix.Rows = []api.Row{{Name: 1, May: []int{1}}}
			c.Records[0].Seen = [][]int{{2}}
		}), false},
		"a series without records": {changed(func(c *api.Case) {
			c.Series = []api.Series{{Observer: 6, Said: 1, To: 99, Name: 2, Count: span(1, 2)}}
		}), false},
		"one that may be empty": {changed(func(c *api.Case) {
			c.Series = []api.Series{{Observer: 6, Said: 1, To: 99, Name: 2, Count: span(0, 2)}}
		}), true},
		"one that does not count": {changed(func(c *api.Case) {
			c.Book.Changes = []api.Change{{Year: 3, From: []int{2}, To: []int{2, 4}}}
			c.Series = []api.Series{{Observer: 6, Said: 1, To: 99, Name: 2, Count: span(1, 2)}}
		}), true},
		"nothing at all": {api.Case{Book: api.NameBook{First: []int{1}}, Matrix: api.Matrix{States: []int{2}}}, true},
	} {
		is, e := answers.Possible(x.c)
		wantSame(t, "Possible of "+what, is, e, x.want)
	}
}
