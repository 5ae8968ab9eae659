package answers_test

import (
	"fmt"
	"math/rand/v2"
	"slices"
	"testing"

	"noctuary/answers"
	"noctuary/api"
	"noctuary/flows"
	"noctuary/keys"
	"noctuary/names"
	"noctuary/places"
)

const (
	huge      = int(^uint(0) >> 1)
	unbounded = 1000000000
)

// The sheets of the sample.
var one, two = name(1, 1), name(1, 2)

func name(house, num int) api.Name { return api.Name{House: house, Num: num} }

func span(lo, hi int) api.Span { return api.Span{Lo: lo, Hi: hi} }

func square(x, y int) api.Square { return api.Square{X: x, Y: y} }

// sample is the case c of the chapter's examples.
func sample() api.Case {
	return api.Case{
		Book:   api.NameBook{First: []int{1, 2, 3}},
		Matrix: api.Matrix{States: []int{2}},
		Lamps:  []api.Lamp{{ID: 7, Power: 100}},
		Catches: []api.Catch{
			{Sheet: one, Observer: 5, Night: 10, Lamp: 7, Total: span(0, 20)},
			{Sheet: two, Observer: 5, Night: 12, Lamp: 7, Total: span(3, 4)},
		},
		Records: []api.Record{
			{Sheet: one, State: api.StateAccepted, Said: 1, Count: span(4, 6)},
			{Sheet: one, Line: 1, Said: 1, Count: span(2, 2), Names: []int{1, 2}},
			{Sheet: two, State: api.StateQueried, Said: 2, Count: span(3, 3)},
		},
	}
}

// rich is the sample with a book that changes, rows, vouchers, another lamp, a further catch, series and a rule.
func rich() api.Case {
	return changed(func(c *api.Case) {
		c.Book.Changes = []api.Change{{Year: 5, From: []int{2}, To: []int{4, 5}}, {Year: 9, From: []int{3}, To: []int{6}}}
		c.Matrix = api.Matrix{States: []int{2, 3}, Rows: []api.Row{{Name: 1, May: []int{1, 3}}, {Name: 4, May: []int{2, 5}}, {Name: 8, May: []int{3, 7}}}}
		c.Rules = []api.Rule{{Name: 9999999, Most: -1}}
		c.Lamps = append(c.Lamps, api.Lamp{ID: 9, Power: 15})
		c.Catches = append(c.Catches, api.Catch{Sheet: name(2, 3), Observer: 6, Square: square(1, 0), Night: 11, Lamp: 9, Total: span(1, 5)})
		c.Records[1].Seen = [][]int{{3, 5}, {3, 2}}
		c.Records = append(c.Records, api.Record{Sheet: name(2, 3), Line: 3, Said: 3, Year: 8, Count: span(1, 2)})
		c.Series = []api.Series{
			{Observer: 5, Said: 1, Year: 0, From: 0, To: 99, Name: 2, Count: span(2, 2)},
			{Observer: 5, Said: 1, Year: 0, From: 0, To: 99, Name: 1, Count: span(2, 9)},
		}
	})
}

// changed is the sample after a change.
func changed(change func(c *api.Case)) api.Case { return changedOf(sample(), change) }

func changedOf(c api.Case, change func(c *api.Case)) api.Case {
	change(&c)
	return c
}

// tight is the sample with a first catch that is too small: it is not possible.
func tight() api.Case { return changed(func(c *api.Case) { c.Catches[0].Total.Hi = 5 }) }

// great is a valid case whose net has too many arcs.
func great() api.Case { return manyShares(7, 0) }

func whole() []api.Square { return []api.Square{{Level: api.MaxLevel}} }

func always() api.Span { return span(0, api.MaxDay) }

// numbers returns the numbers from 1 to n.
func numbers(n int) []int {
	var out []int
	for i := range n {
		out = append(out, i+1)
	}
	return out
}

// text tells all of a value; a nil slice and an empty one are told in the same way.
func text(x any) string { return fmt.Sprint(x) }

func same[T any](a, b T) bool { return text(a) == text(b) }

// wantSame checks the result of a call that must not fail.
func wantSame[T any](t *testing.T, what string, got T, e api.Errno, want T) {
	t.Helper()
	if e != api.OK || !same(got, want) {
		t.Errorf("%s: %v, error %d; want %v", what, got, e, want)
	}
}

// result is what a call returned: its error, and whether all else was zero.
type result struct {
	e     api.Errno
	empty bool
}

func resultOf[T any](got T, e api.Errno) result {
	var none T
	return result{e, same(got, none)}
}

// wantError checks that a call returned an error, and nothing else.
func wantError(t *testing.T, what string, got result, want api.Errno) {
	t.Helper()
	if got.e != want || !got.empty {
		t.Errorf("%s: error %d, other results empty: %v; want error %d alone", what, got.e, got.empty, want)
	}
}

// arguments are those of all functions beside the case.
type arguments struct {
	record, name int
	region       []api.Square
	nights, now  api.Span
	shares       []int
}

// right are arguments that are as they must be for each case that has a record, and a name 1.
func right() arguments {
	return arguments{record: 0, name: 1, region: whole(), nights: always(), now: always()}
}

type call func(c api.Case, a arguments) result

// index is Index with its results as one.
func index(c api.Case, name int, region []api.Square, nights api.Span) ([2]api.Ratio, api.Errno) {
	low, high, e := answers.Index(c, name, region, nights)
	return [2]api.Ratio{low, high}, e
}

// withoutNet returns all functions that do not need the net.
func withoutNet() map[string]call {
	return map[string]call{
		"Check":      func(c api.Case, a arguments) result { return resultOf(0, answers.Check(c)) },
		"Candidates": func(c api.Case, a arguments) result { return resultOf(answers.Candidates(c, a.record)) },
		"Candid":     func(c api.Case, a arguments) result { return resultOf(answers.Candid(c)) },
		"Taken":      func(c api.Case, a arguments) result { return resultOf(answers.Taken(c, a.record)) },
		"SeriesOf":   func(c api.Case, a arguments) result { return resultOf(answers.SeriesOf(c, a.record, a.name)) },
		"Effort":     func(c api.Case, a arguments) result { return resultOf(answers.Effort(c, a.region, a.nights)) },
	}
}

// withNet returns all functions that need the net, but not that it has a flow.
func withNet() map[string]call {
	return map[string]call{
		"NetOf":    func(c api.Case, a arguments) result { return resultOf(answers.NetOf(c)) },
		"Arc":      func(c api.Case, a arguments) result { return resultOf(answers.Arc(c, a.record, a.name)) },
		"Possible": func(c api.Case, a arguments) result { return resultOf(answers.Possible(c)) },
		"Given":    func(c api.Case, a arguments) result { return resultOf(answers.Given(c, a.shares, a.record, a.name)) },
		"Clash":    func(c api.Case, a arguments) result { return resultOf(answers.Clash(c)) },
	}
}

// withFlow returns all functions that need a net with a flow.
func withFlow() map[string]call {
	return map[string]call{
		"Count":          func(c api.Case, a arguments) result { return resultOf(answers.Count(c, a.name)) },
		"Where":          func(c api.Case, a arguments) result { return resultOf(answers.Where(c, a.name, a.region, a.nights)) },
		"Shares":         func(c api.Case, a arguments) result { return resultOf(answers.Shares(c, a.name, false)) },
		"Shares of most": func(c api.Case, a arguments) result { return resultOf(answers.Shares(c, a.name, true)) },
		"First":          func(c api.Case, a arguments) result { return resultOf(answers.First(c, a.name)) },
		"LastOf":         func(c api.Case, a arguments) result { return resultOf(answers.LastOf(c, a.name)) },
		"Sure":           func(c api.Case, a arguments) result { return resultOf(answers.Sure(c, a.name)) },
		"May":            func(c api.Case, a arguments) result { return resultOf(answers.May(c, a.name)) },
		"Index":          func(c api.Case, a arguments) result { return resultOf(index(c, a.name, a.region, a.nights)) },
		"Change": func(c api.Case, a arguments) result {
			return resultOf(answers.Change(c, a.name, a.region, a.nights, a.now))
		},
	}
}

// functions returns all functions.
func functions() map[string]call {
	out := withoutNet()
	for _, more := range []map[string]call{withNet(), withFlow()} {
		for what, f := range more {
			out[what] = f
		}
	}
	return out
}

func random() *rand.Rand { return rand.New(rand.NewPCG(7, 20)) }

// pick returns any element of a list.
func pick[T any](r *rand.Rand, l ...T) T { return l[r.IntN(len(l))] }

// someOf returns one to three elements of a list, in order.
func someOf(r *rand.Rand, l []int) []int {
	var out []int
	for _, i := range r.Perm(len(l))[:1+r.IntN(min(3, len(l)))] {
		out = append(out, l[i])
	}
	slices.Sort(out)
	return out
}

func lastOf(b api.NameBook) int {
	v, _ := names.Last(b)
	return v
}

// now returns the names of the last version.
func now(c api.Case) []int { return namesIn(c.Book, lastOf(c.Book)) }

func namesIn(b api.NameBook, v int) []int {
	l, _ := names.Names(b, v)
	return l
}

func namesOfYear(b api.NameBook, year int) []int { return namesIn(b, versionOf(b, year)) }

func versionOf(b api.NameBook, year int) int {
	v, _ := names.VersionOf(b, year)
	return v
}

// someBook returns a book with few names, and up to two changes in the years 1 and 2.
func someBook(r *rand.Rand) api.NameBook {
	b := api.NameBook{First: numbers(1 + r.IntN(3))}
	for range r.IntN(3) {
		l := namesIn(b, lastOf(b))
		to := someOf(r, append([]int{5, 6}, l...))
		if longer, e := names.Apply(b, api.Change{Year: 1 + len(b.Changes), From: someOf(r, l), To: to}); e == api.OK {
			b = longer
		}
	}
	return b
}

func someSpan(r *rand.Rand, most int) api.Span {
	lo := r.IntN(most + 1)
	return span(lo, lo+r.IntN(most+1-lo))
}

func someRecord(r *rand.Rand, c api.Case, line int) api.Record {
	x := api.Record{Sheet: pick(r, c.Catches...).Sheet, Line: line, State: pick(r, 0, 0, 1, 1, 2, 3), Year: r.IntN(3), Count: someSpan(r, 3)}
	l := namesOfYear(c.Book, x.Year)
	x.Said = pick(r, l...)
	if r.IntN(2) == 0 {
		x.Names = someOf(r, l)
	}
	for range max(0, r.IntN(4)-1) {
		x.Seen = append(x.Seen, []int{pick(r, 1, 2, 3, 3)})
	}
	return x
}

// someSeries returns a series, often one to which a record may belong.
func someSeries(r *rand.Rand, c api.Case) api.Series {
	from, year := r.IntN(3), r.IntN(3)
	out := api.Series{Observer: pick(r, 5, 5, 6), Said: pick(r, namesOfYear(c.Book, year)...), Year: year, From: from, To: from + r.IntN(4)}
	if len(c.Records) > 0 && r.IntN(4) > 0 {
		x := pick(r, c.Records...)
		out.Observer, out.Said, out.Year, out.From = catchOf(c, x).Observer, x.Said, x.Year, 0
	}
	out.Name, out.Count = pick(r, namesOfYear(c.Book, out.Year)...), someSpan(r, pick(r, 1, 1, 3))
	return out
}

// someCase returns a small case.
func someCase(r *rand.Rand) api.Case {
	c := api.Case{Book: someBook(r), Matrix: api.Matrix{States: []int{2}}, Lamps: []api.Lamp{{ID: 7, Power: 4}, {ID: 9, Power: 6}}}
	for _, x := range now(c) {
		if r.IntN(2) == 0 {
			c.Matrix.Rows = append(c.Matrix.Rows, api.Row{Name: x, May: []int{pick(r, 1, 2, 3)}})
		}
	}
	for i := range 1 + r.IntN(4) {
		x := api.Catch{Sheet: name(1+i%2, 9-i), Observer: pick(r, 5, 5, 6), Square: square(r.IntN(2), r.IntN(2)), Night: r.IntN(4), Lamp: pick(r, 7, 9)}
		x.Total = span(r.IntN(3), 2+r.IntN(4))
		c.Catches = append(c.Catches, x)
	}
	for line := range r.IntN(5) {
		c.Records = append(c.Records, someRecord(r, c, line))
	}
	for range max(0, r.IntN(4)-1) {
		c.Series = append(c.Series, someSeries(r, c))
	}
	return c
}

// eachCase calls a test with many small cases, until it fails.
func eachCase(t *testing.T, do func(r *rand.Rand, c api.Case)) {
	t.Helper()
	r := random()
	for range 2000 {
		c := someCase(r)
		do(r, c)
		if t.Failed() {
			t.Fatalf("the case was %+v", c)
		}
	}
}

// eachPossible is eachCase with the cases that are possible alone.
func eachPossible(t *testing.T, do func(r *rand.Rand, c api.Case)) {
	t.Helper()
	count := 0
	eachCase(t, func(r *rand.Rand, c api.Case) {
		if is, _ := answers.Possible(c); is {
			count++
			do(r, c)
		}
	})
	if count < 800 || count > 1900 {
		t.Errorf("%d of 2000 cases are possible", count)
	}
}

// catchOf returns the catch of a record.
func catchOf(c api.Case, x api.Record) api.Catch {
	return c.Catches[slices.IndexFunc(c.Catches, func(y api.Catch) bool { return y.Sheet == x.Sheet })]
}

// candidatesOf is Candidates by the chapter's words.
func candidatesOf(c api.Case, x api.Record) []int {
	l := x.Names
	if len(l) == 0 {
		l = []int{x.Said}
	}
	all, _ := names.All(c.Book, versionOf(c.Book, x.Year), l, lastOf(c.Book))
	return slices.DeleteFunc(all, func(name int) bool {
		if _, e := keys.Row(c.Matrix, name); e != api.OK {
			return false
		}
		return slices.ContainsFunc(x.Seen, func(seen []int) bool {
			fits, _ := keys.Fits(c.Matrix, name, seen)
			return !fits
		})
	})
}

// takenOf is Taken by the chapter's words.
func takenOf(x api.Record) api.Span {
	return map[int]api.Span{
		api.StateOpen:     x.Count,
		api.StateAccepted: x.Count,
		api.StateQueried:  span(0, x.Count.Hi),
		api.StateRejected: {},
	}[x.State]
}

// nameOf returns the name of a series, if it counts.
func nameOf(c api.Case, s api.Series) (int, bool) {
	x, e := names.Exact(c.Book, versionOf(c.Book, s.Year), s.Name, lastOf(c.Book))
	return x, e == api.OK
}

// seriesOf is SeriesOf by the chapter's words; -1, if there is none.
func seriesOf(c api.Case, x api.Record, name int) int {
	for i, s := range c.Series {
		its, counts := nameOf(c, s)
		if !counts || its != name || !slices.Contains(candidatesOf(c, x), name) || s.Said != x.Said || s.Year != x.Year {
			continue
		}
		if y := catchOf(c, x); s.Observer == y.Observer && s.From <= y.Night && y.Night <= s.To && x.State != api.StateRejected {
			return i
		}
	}
	return -1
}

// counting returns the indices of the series that count.
func counting(c api.Case) []int {
	var out []int
	for i, s := range c.Series {
		if _, counts := nameOf(c, s); counts {
			out = append(out, i)
		}
	}
	return out
}

// netOf is NetOf by the chapter's words.
func netOf(c api.Case) api.Net {
	list, worked := now(c), counting(c)
	records := 1 + len(c.Catches)
	series := records + len(c.Records)
	first := series + len(worked)
	n := api.Net{Nodes: first + len(list)}
	add := func(from, to, lo, hi int) { n.Arcs = append(n.Arcs, api.Arc{From: from, To: to, Lo: lo, Hi: hi}) }
	for i, x := range c.Catches {
		add(0, 1+i, x.Total.Lo, x.Total.Hi)
	}
	for i, x := range c.Catches {
		add(1+i, 0, 0, x.Total.Hi)
	}
	for i, x := range c.Records {
		add(1+slices.Index(c.Catches, catchOf(c, x)), records+i, takenOf(x).Lo, takenOf(x).Hi)
	}
	for i, x := range c.Records {
		for _, name := range candidatesOf(c, x) {
			to := first + slices.Index(list, name)
			if k := slices.Index(worked, seriesOf(c, x, name)); k >= 0 {
				to = series + k
			}
			add(records+i, to, 0, takenOf(x).Hi)
		}
	}
	for k, i := range worked {
		its, _ := nameOf(c, c.Series[i])
		add(series+k, first+slices.Index(list, its), c.Series[i].Count.Lo, c.Series[i].Count.Hi)
	}
	for i := range list {
		add(first+i, 0, 0, unbounded)
	}
	return n
}

// arcOf is Arc by the chapter's words; -1, if there is none.
func arcOf(c api.Case, record, name int) int {
	at := 2*len(c.Catches) + len(c.Records)
	for i, x := range c.Records {
		l := candidatesOf(c, x)
		if k := slices.Index(l, name); i == record && k >= 0 {
			return at + k
		}
		at += len(l)
	}
	return -1
}

// sharesOf returns shares that give what a reading gives.
func sharesOf(r *rand.Rand, c api.Case, given reading) []int {
	n := netOf(c)
	f := make([]int, len(n.Arcs))
	for i, x := range c.Records {
		for name, k := range given[i] {
			arc := arcOf(c, i, name)
			f[arc] = k
			f[2*len(c.Catches)+i] += k
			f[slices.IndexFunc(n.Arcs, func(a api.Arc) bool { return a.From == n.Nodes-len(now(c))+slices.Index(now(c), name) })] += k
			if to := n.Arcs[arc].To; to < n.Nodes-len(now(c)) {
				f[slices.IndexFunc(n.Arcs, func(a api.Arc) bool { return a.From == to })] += k
			}
		}
		f[slices.Index(c.Catches, catchOf(c, x))] += f[2*len(c.Catches)+i]
	}
	for i, x := range c.Catches {
		// Moths that no record tells, as many as there may be.
		least := max(0, x.Total.Lo-f[i])
		rest := least + r.IntN(x.Total.Hi-f[i]-least+1)
		f[i] += rest
		f[len(c.Catches)+i] = rest
	}
	return f
}

// proved checks that heights which were found prove a count, and that no others prove more.
func proved(t *testing.T, r *rand.Rand, n api.Net, arc int, count api.Span) {
	t.Helper()
	arcs := []int{arc}
	low, e := flows.ProveLeast(n, arcs)
	x, check := flows.CheckLeast(n, arcs, low)
	if e != api.OK || check != api.OK || x != count.Lo {
		t.Errorf("ProveLeast: %v, error %d, proves %d, error %d; want %d", low, e, x, check, count.Lo)
	}
	high, e := flows.ProveMost(n, arcs)
	x, check = flows.CheckMost(n, arcs, high)
	if e != api.OK || check != api.OK || x != count.Hi {
		t.Errorf("ProveMost: %v, error %d, proves %d, error %d; want %d", high, e, x, check, count.Hi)
	}
	for range 5 {
		heights := make([]int, n.Nodes)
		for i := range heights {
			heights[i] = r.IntN(3)
		}
		if x, _ := flows.CheckLeast(n, arcs, heights); x > count.Lo {
			t.Errorf("heights %v prove %d from below; the count is %v", heights, x, count)
		}
		if x, _ := flows.CheckMost(n, arcs, heights); x < count.Hi {
			t.Errorf("heights %v prove %d from above; the count is %v", heights, x, count)
		}
	}
}

// regionOf returns the region of squares.
func regionOf(l []api.Square) []api.Square {
	out, _ := places.Normal(l)
	return out
}
