package answers_test

import (
	"math/rand/v2"
	"slices"
	"testing"

	"noctuary/answers"
	"noctuary/api"
	"noctuary/flows"
	"noctuary/places"
)

// everywhere returns a case with as many catches and records as there may be, all of one name: in each a moth or two.
func everywhere() api.Case {
	c := changed(func(c *api.Case) { c.Catches, c.Records = nil, nil })
	c.Lamps[0].Power = api.MaxPower
	for i := range api.MaxRecords {
		c.Catches = append(c.Catches, api.Catch{Sheet: name(1, 1+i), Observer: 5, Square: square(2*(i%20), 2*(i/20)), Night: 1000 + 100*i, Lamp: 7, Total: span(0, api.MaxCount)})
		c.Records = append(c.Records, api.Record{Sheet: name(1, 1+i), Said: 1, Count: span(1, api.MaxCount)})
	}
	return c
}

// P7.1: the most catches and records, and the greatest numbers.
func TestEverywhere(t *testing.T) {
	c := everywhere()
	s, e := answers.Count(c, 1)
	wantSame(t, "Count", s, e, span(400, 400*api.MaxCount))
	s, e = answers.First(c, 1)
	wantSame(t, "First", s, e, span(1000, 1000))
	s, e = answers.LastOf(c, 1)
	wantSame(t, "LastOf", s, e, span(40900, 40900))
	all, _ := places.Coarse([]api.Square{{Level: api.MaxLevel}}, api.MaxLevel-1)
	s, e = answers.Where(c, 1, all[:1], span(1000, 1199))
	wantSame(t, "Where", s, e, span(2, 2*api.MaxCount))
	for what, f := range map[string]func(c api.Case, name int) ([]api.Square, api.Errno){"Sure": answers.Sure, "May": answers.May} {
		l, e := f(c, 1)
		if e != api.OK || len(l) != 400 || !slices.Contains(l, square(38, 38)) {
			t.Errorf("%s: %d squares, error %d", what, len(l), e)
		}
		l, e = f(c, 2)
		wantSame(t, what, l, e, nil)
	}
	n, e := answers.Effort(c, whole(), always())
	wantSame(t, "Effort", n, e, 400*api.MaxPower)
	l, e := index(c, 1, whole(), always())
	wantSame(t, "Index", l, e, [2]api.Ratio{ratio(1, 10000), ratio(10, 1)})
	n, e = answers.Change(c, 1, whole(), span(0, 20000), span(20001, api.MaxDay))
	wantSame(t, "Change", n, e, 0)
	n, e = answers.Change(c, 1, manySquares(), span(0, 20000), span(20001, api.MaxDay))
	wantSame(t, "Change in many squares", n, e, 0)
}

// manySquares returns a region of as many squares as there may be: some of those of the case everywhere.
func manySquares() []api.Square {
	var l []api.Square
	for y := range 64 {
		for x := range 64 {
			l = append(l, square(2*x, 2*y))
		}
	}
	return l
}

// perhaps returns a case as great as it may be, in which many names are possible for each record.
func perhaps(r *rand.Rand) api.Case {
	c := everywhere()
	c.Book = api.NameBook{First: numbers(api.MaxNames)}
	for i := range api.MaxChanges {
		var from, to []int
		for k := range 5 {
			from, to = append(from, 5*i+k+1), append(to, 1000+5*i+k)
		}
		c.Book.Changes = append(c.Book.Changes, api.Change{Year: 4 * i, From: from, To: to[:4+i%2]})
	}
	c.Matrix = api.Matrix{States: slices.Repeat([]int{2}, api.MaxChars)}
	for _, x := range now(c) {
		c.Matrix.Rows = append(c.Matrix.Rows, api.Row{Name: x, May: append([]int{1 + x%3}, slices.Repeat([]int{3}, api.MaxChars-1)...)})
	}
	for i := range c.Records {
		c.Catches[i].Total = span(r.IntN(30), 30+r.IntN(30))
		x := &c.Records[i]
		x.Year, x.Count = 4*(i%60), span(r.IntN(10)*r.IntN(2), 10+r.IntN(10))
		l := namesOfYear(c.Book, x.Year)
		x.Said = pick(r, l...)
		x.Names = nil
		for _, k := range r.Perm(len(l))[:2+r.IntN(3)] {
			x.Names = append(x.Names, l[k])
		}
		slices.Sort(x.Names)
		x.Seen = [][]int{slices.Repeat([]int{3}, api.MaxChars)}
		if i%4 == 0 {
			x.Seen[0][0] = 1
		}
	}
	for range 40 {
		x := pick(r, c.Records...)
		c.Series = append(c.Series, api.Series{Observer: 5, Said: x.Said, Year: x.Year, To: api.MaxDay, Name: pick(r, x.Names...), Count: span(0, 5)})
	}
	return c
}

// P7.2 to P7.5, R1: of a great case, in which a proof for each end leaves nothing open.
func TestPerhaps(t *testing.T) {
	r := random()
	c := perhaps(r)
	n, e := answers.NetOf(c)
	if e != api.OK || len(n.Arcs) < 3000 || flows.Check(n) != api.OK {
		t.Fatalf("NetOf: %d arcs, error %d", len(n.Arcs), e)
	}
	for record := range 4 {
		l, e := answers.Candidates(c, record)
		wantSame(t, "Candidates", l, e, candidatesOf(c, c.Records[record]))
		name := l[0]
		i := slices.Index(now(c), name)
		x := toldOf(c, name, whole(), always())
		proved(t, r, n, len(n.Arcs)-len(now(c))+i, x.count)
		if x.where != x.count {
			t.Errorf("Where of all: %v; Count: %v", x.where, x.count)
		}
		wantBySteps(t, c, n, name, x)
	}
}

// wantBySteps checks the nights and the squares of a name, about each of which the net is asked alone. (Records stand by increasing nights, and each has a square of its own.)
func wantBySteps(t *testing.T, c api.Case, n api.Net, name int, x told) {
	t.Helper()
	want := told{first: span(-1, -1), last: span(-1, -1)}
	var catches []api.Catch
	var arcs []int
	at := 2*len(c.Catches) + len(c.Records)
	all, _ := answers.Candid(c)
	for i, l := range all {
		if k := slices.Index(l, name); k >= 0 {
			catches, arcs = append(catches, c.Catches[i]), append(arcs, at+k)
		}
		at += len(l)
	}
	for i, of := range catches {
		if is, _ := flows.May(n, arcs[i:i+1]); is {
			want.may = append(want.may, of.Square)
			want.last.Hi = of.Night
			if want.first.Lo < 0 {
				want.first.Lo = of.Night
			}
		}
		if is, _ := flows.Must(n, arcs[i:i+1]); is {
			want.sure = append(want.sure, of.Square)
		}
		if is, _ := flows.Must(n, arcs[:i+1]); is && want.first.Hi < 0 {
			want.first.Hi = of.Night
		}
		if is, _ := flows.Must(n, arcs[i:]); is {
			want.last.Lo = of.Night
		}
	}
	if x.first != want.first || x.last != want.last || !same(x.sure, regionOf(want.sure)) || !same(x.may, regionOf(want.may)) {
		t.Errorf("of %d: First %v, LastOf %v, Sure %v, May %v; want %+v", name, x.first, x.last, x.sure, x.may, want)
	}
}
