package answers_test

import (
	"slices"
	"testing"

	"noctuary/answers"
	"noctuary/api"
)

// field is a number of a case, with its bounds there.
type field struct {
	at          func(c *api.Case) *int
	least, most int
}

// spare is the sample with a further catch and lamp, which nothing else mentions, a record of a line of its own and a series.
func spare() api.Case {
	return changed(func(c *api.Case) {
		c.Catches = append(c.Catches, api.Catch{Sheet: name(2, 1), Observer: 5, Lamp: 7, Total: span(2, 4)})
		c.Lamps = append(c.Lamps, api.Lamp{ID: 9, Power: 15})
		c.Series = []api.Series{{Observer: 5, Said: 1, From: 3, To: 99, Name: 2, Count: span(1, 2)}}
		c.Records[2].Line = 2
	})
}

func fields() map[string]field {
	return map[string]field{
		"the ID of a lamp":       {func(c *api.Case) *int { return &c.Lamps[1].ID }, 8, api.MaxID},
		"the ID of the first":    {func(c *api.Case) *int { return &c.Lamps[0].ID }, 7, 7},
		"the power of a lamp":    {func(c *api.Case) *int { return &c.Lamps[1].Power }, 1, api.MaxPower},
		"the house of a catch":   {func(c *api.Case) *int { return &c.Catches[2].Sheet.House }, 2, api.MaxHouses},
		"the number of a catch":  {func(c *api.Case) *int { return &c.Catches[2].Sheet.Num }, 1, api.MaxNotes},
		"the observer":           {func(c *api.Case) *int { return &c.Catches[2].Observer }, 1, api.MaxID},
		"the level of a square":  {func(c *api.Case) *int { return &c.Catches[2].Square.Level }, 0, 0},
		"X of a square":          {func(c *api.Case) *int { return &c.Catches[2].Square.X }, 0, 1023},
		"Y of a square":          {func(c *api.Case) *int { return &c.Catches[2].Square.Y }, 0, 1023},
		"the night of a catch":   {func(c *api.Case) *int { return &c.Catches[2].Night }, 0, api.MaxDay},
		"the lamp of a catch":    {func(c *api.Case) *int { return &c.Catches[2].Lamp }, 7, 7},
		"Lo of a total":          {func(c *api.Case) *int { return &c.Catches[2].Total.Lo }, 0, 4},
		"Hi of a total":          {func(c *api.Case) *int { return &c.Catches[2].Total.Hi }, 2, api.MaxCount},
		"the sheet of a record":  {func(c *api.Case) *int { return &c.Records[2].Sheet.Num }, 1, 2},
		"the house of a record":  {func(c *api.Case) *int { return &c.Records[2].Sheet.House }, 1, 1},
		"the line of a record":   {func(c *api.Case) *int { return &c.Records[2].Line }, 0, api.MaxLines - 1},
		"the state of a record":  {func(c *api.Case) *int { return &c.Records[2].State }, 0, 3},
		"the year of a record":   {func(c *api.Case) *int { return &c.Records[2].Year }, 0, api.MaxYear},
		"what is said":           {func(c *api.Case) *int { return &c.Records[2].Said }, 1, 3},
		"Lo of a count":          {func(c *api.Case) *int { return &c.Records[0].Count.Lo }, 0, 6},
		"Hi of a count":          {func(c *api.Case) *int { return &c.Records[0].Count.Hi }, 4, api.MaxCount},
		"the first of names":     {func(c *api.Case) *int { return &c.Records[1].Names[0] }, 1, 1},
		"the last of names":      {func(c *api.Case) *int { return &c.Records[1].Names[1] }, 2, 3},
		"the observer of series": {func(c *api.Case) *int { return &c.Series[0].Observer }, 1, api.MaxID},
		"the year of series":     {func(c *api.Case) *int { return &c.Series[0].Year }, 0, api.MaxYear},
		"what series were said":  {func(c *api.Case) *int { return &c.Series[0].Said }, 1, 3},
		"the name of series":     {func(c *api.Case) *int { return &c.Series[0].Name }, 1, 3},
		"From of series":         {func(c *api.Case) *int { return &c.Series[0].From }, 0, 99},
		"To of series":           {func(c *api.Case) *int { return &c.Series[0].To }, 3, api.MaxDay},
		"Lo of series":           {func(c *api.Case) *int { return &c.Series[0].Count.Lo }, 0, 2},
		"Hi of series":           {func(c *api.Case) *int { return &c.Series[0].Count.Hi }, 1, api.MaxCount},
	}
}

// manyLamps returns n lamps, the first of which is that of the sample.
func manyLamps(n int) []api.Lamp {
	var l []api.Lamp
	for i := range n {
		l = append(l, api.Lamp{ID: 7 + i, Power: 1})
	}
	return l
}

// manyCatches returns n catches.
func manyCatches(n int) []api.Catch {
	var l []api.Catch
	for i := range n {
		l = append(l, api.Catch{Sheet: name(1+i/api.MaxNotes, 1+i%api.MaxNotes), Observer: 5, Lamp: 7})
	}
	return l
}

// manyRecords returns n records of the sheets 1 to 3.
func manyRecords(n int) []api.Record {
	var l []api.Record
	for i := range n {
		l = append(l, api.Record{Sheet: name(1, 1+i/api.MaxLines), Line: i % api.MaxLines, Said: 1})
	}
	return l
}

// seenTimes returns n times what was seen.
func seenTimes(n int) [][]int { return slices.Repeat([][]int{{3}}, n) }

func goodCases() map[string]api.Case {
	set := changed
	return map[string]api.Case{
		"the sample":            sample(),
		"the rich sample":       rich(),
		"the spare one":         spare(),
		"the tight one":         tight(),
		"the great one":         great(),
		"the least":             {Book: api.NameBook{First: []int{1}}, Matrix: api.Matrix{States: []int{2}}},
		"empty lists":           {Book: api.NameBook{First: []int{1}}, Matrix: api.Matrix{States: []int{2}}, Lamps: []api.Lamp{}, Records: []api.Record{}, Series: []api.Series{}},
		"rules of any form":     set(func(c *api.Case) { c.Rules = make([]api.Rule, api.MaxRules+1) }),
		"the most lamps":        set(func(c *api.Case) { c.Lamps = manyLamps(api.MaxLamps) }),
		"the most catches":      set(func(c *api.Case) { c.Catches = manyCatches(api.MaxNotes) }),
		"the most records":      set(func(c *api.Case) { c.Catches, c.Records = manyCatches(2), manyRecords(api.MaxRecords) }),
		"the most series":       set(func(c *api.Case) { c.Series = slices.Repeat(spare().Series, api.MaxNotes) }),
		"the most vouchers":     set(func(c *api.Case) { c.Records[0].Seen = seenTimes(api.MaxNotes) }),
		"the most changes":      set(func(c *api.Case) { c.Book = changingBook(api.MaxChanges) }),
		"catches out of order":  set(func(c *api.Case) { slices.Reverse(c.Catches) }),
		"records out of order":  set(func(c *api.Case) { slices.Reverse(c.Records) }),
		"catches like another":  set(func(c *api.Case) { c.Catches[1] = c.Catches[0]; c.Catches[1].Sheet = two }),
		"a line of two sheets":  set(func(c *api.Case) { c.Records[2].Line = 1 }),
		"no names":              set(func(c *api.Case) { c.Records[1].Names = []int{} }),
		"names without the one": set(func(c *api.Case) { c.Records[1].Names = []int{2, 3} }),
		"a name that goes":      changedOf(rich(), func(c *api.Case) { c.Records[1].Year = 4 }),
		"a name that comes":     changedOf(rich(), func(c *api.Case) { c.Records[2].Year, c.Records[2].Said = 5, 4 }),
		"a series in a year":    changedOf(rich(), func(c *api.Case) { c.Series[0].Year, c.Series[0].Name = 5, 5 }),
	}
}

// changingBook returns a book of the names of the sample with n changes that rename nothing.
func changingBook(n int) api.NameBook {
	return api.NameBook{First: []int{1, 2, 3}, Changes: slices.Repeat([]api.Change{{From: []int{1}, To: []int{1}}}, n)}
}

func badCases() map[string]api.Case {
	set := changed
	seen := func(l ...[]int) api.Case { return set(func(c *api.Case) { c.Records[0].Seen = l }) }
	out := map[string]api.Case{
		"no lamps":                  set(func(c *api.Case) { c.Lamps = nil }),
		"too many lamps":            set(func(c *api.Case) { c.Lamps = manyLamps(api.MaxLamps + 1) }),
		"a lamp twice":              set(func(c *api.Case) { c.Lamps = slices.Repeat(c.Lamps, 2) }),
		"lamps out of order":        set(func(c *api.Case) { c.Lamps = []api.Lamp{{ID: 9, Power: 1}, {ID: 7, Power: 1}} }),
		"too many catches":          set(func(c *api.Case) { c.Catches = manyCatches(api.MaxNotes + 1) }),
		"a sheet twice":             set(func(c *api.Case) { c.Catches[1].Sheet = one }),
		"a further sheet twice":     set(func(c *api.Case) { c.Catches = append(c.Catches, c.Catches[0]) }),
		"a record without a sheet":  set(func(c *api.Case) { c.Catches = c.Catches[:1] }),
		"too many records":          set(func(c *api.Case) { c.Catches, c.Records = manyCatches(3), manyRecords(api.MaxRecords+1) }),
		"a line twice":              set(func(c *api.Case) { c.Records[1].Line = 0 }),
		"names twice":               set(func(c *api.Case) { c.Records[1].Names = []int{2, 2} }),
		"names out of order":        set(func(c *api.Case) { c.Records[1].Names = []int{2, 1} }),
		"names of no version":       set(func(c *api.Case) { c.Records[1].Names = []int{1, 4} }),
		"names of a later version":  changedOf(rich(), func(c *api.Case) { c.Records[1].Names = []int{1, 4} }),
		"said in a later version":   changedOf(rich(), func(c *api.Case) { c.Records[2].Year, c.Records[2].Said = 4, 4 }),
		"said in an earlier one":    changedOf(rich(), func(c *api.Case) { c.Records[2].Year = 5 }),
		"too many vouchers":         seen(seenTimes(api.MaxNotes + 1)...),
		"a voucher of nothing":      seen([]int{1}, nil),
		"a voucher of no state":     seen([]int{1}, []int{0}),
		"a voucher of others":       seen([]int{1}, []int{4}),
		"a voucher of too much":     seen([]int{1}, []int{1, 1}),
		"a voucher of less":         seen([]int{-1}),
		"too many series":           set(func(c *api.Case) { c.Series = slices.Repeat(spare().Series, api.MaxNotes+1) }),
		"a series with a late name": changedOf(rich(), func(c *api.Case) { c.Series[0].Name = 4 }),
		"a series of a late name":   changedOf(rich(), func(c *api.Case) { c.Series[0].Said = 4 }),
		"a series of an early name": changedOf(rich(), func(c *api.Case) { c.Series[0].Year = 5 }),
		"a bad last series":         changedOf(rich(), func(c *api.Case) { c.Series[1].Count = span(2, 1) }),
	}
	for what, x := range fields() {
		for how, bad := range map[string]int{"too small": x.least - 1, "too great": x.most + 1, "the least int": -huge - 1, "the greatest int": huge} {
			out[what+", "+how] = changedOf(spare(), func(c *api.Case) { *x.at(c) = bad })
		}
	}
	return out
}

// P7.1 (A1).
func TestCheck(t *testing.T) {
	for what, c := range goodCases() {
		if e := answers.Check(c); e != api.OK {
			t.Errorf("Check of %s: error %d", what, e)
		}
	}
	for what, x := range fields() {
		for _, good := range []int{x.least, x.most} {
			if e := answers.Check(changedOf(spare(), func(c *api.Case) { *x.at(c) = good })); e != api.OK {
				t.Errorf("Check with %s %d: error %d", what, good, e)
			}
		}
	}
	for what, c := range badCases() {
		if e := answers.Check(c); e != api.ErrCase {
			t.Errorf("Check of %s: error %d", what, e)
		}
	}
}

// richBook returns a book with more than MaxFates fates.
func richBook() api.NameBook {
	b := api.NameBook{First: []int{1}}
	for i := range 12 {
		b.Changes = append(b.Changes, api.Change{From: []int{10*i + 1}, To: []int{10*i + 2, 10*i + 3}}, api.Change{From: []int{10*i + 2, 10*i + 3}, To: []int{10*i + 11}})
	}
	return b
}

// P7.1 (A1), R2: the errors of the book and the matrix come ahead of ErrCase, in their order, and that of the case ahead of ErrArg, from all functions.
func TestCaseErrors(t *testing.T) {
	badBook := func(c *api.Case) { c.Book.First = []int{2, 1} }
	manyChanges := func(c *api.Case) { c.Book = changingBook(api.MaxChanges + 1) }
	manyFates := func(c *api.Case) { c.Book = richBook() }
	badMatrix := func(c *api.Case) { c.Matrix.States = nil }
	badRest := func(c *api.Case) { c.Lamps, c.Records = nil, nil }
	cases := []struct {
		what    string
		changes []func(c *api.Case)
		want    api.Errno
	}{
		{"a bad book", []func(c *api.Case){badBook}, api.ErrBook},
		{"a bad book and all else", []func(c *api.Case){badBook, badMatrix, badRest}, api.ErrBook},
		{"too many changes and all else", []func(c *api.Case){manyChanges, badMatrix, badRest}, api.ErrLimit},
		{"too many fates and all else", []func(c *api.Case){manyFates, badMatrix, badRest}, api.ErrLimit},
		{"a bad matrix", []func(c *api.Case){badMatrix}, api.ErrMatrix},
		{"a bad matrix and all else", []func(c *api.Case){badMatrix, badRest}, api.ErrMatrix},
		{"no lamps", []func(c *api.Case){badRest}, api.ErrCase},
	}
	for _, x := range cases {
		for what, f := range functions() {
			c := sample()
			for _, change := range x.changes {
				change(&c)
			}
			wantError(t, what+" of "+x.what, f(c, right()), x.want)
			wantError(t, what+" of "+x.what+" with bad arguments", f(c, wrong()), x.want)
		}
	}
	for how, c := range badCases() {
		for what, f := range functions() {
			wantError(t, what+" of "+how, f(c, right()), api.ErrCase)
		}
	}
}

// wrong are arguments none of which is as it must be.
func wrong() arguments {
	return arguments{record: -1, name: 4, region: []api.Square{{Level: 11}}, nights: span(1, 0), now: span(-1, 0), shares: []int{-1}}
}

// badArguments are arguments of which one is not as it must be, with the functions that have it.
func badArguments() map[string]func(what string, a *arguments) {
	record := []string{"Candidates", "Taken", "SeriesOf", "Arc", "Given"}
	placed := []string{"Where", "Effort", "Index", "Change"}
	out := map[string]func(what string, a *arguments){}
	add := func(how string, those []string, change func(a *arguments)) {
		out[how] = func(what string, a *arguments) {
			if slices.Contains(those, what) {
				change(a)
			}
		}
	}
	add("the record -1", record, func(a *arguments) { a.record = -1 })
	add("a record too far", record, func(a *arguments) { a.record = 3 })
	add("the greatest record", record, func(a *arguments) { a.record = huge })
	add("the least record", record, func(a *arguments) { a.record = -huge - 1 })
	add("the name 0", named(), func(a *arguments) { a.name = 0 })
	add("a name too great", named(), func(a *arguments) { a.name = 4 })
	add("the greatest name", named(), func(a *arguments) { a.name = huge })
	add("the least name", named(), func(a *arguments) { a.name = -huge - 1 })
	add("squares beyond the map", placed, func(a *arguments) { a.region = []api.Square{{X: 1024}} })
	add("squares out of order", placed, func(a *arguments) { a.region = []api.Square{{X: 1}, {X: 0}} })
	add("a square twice", placed, func(a *arguments) { a.region = []api.Square{{}, {}} })
	add("four children", placed, func(a *arguments) { a.region = []api.Square{{}, {X: 1}, {Y: 1}, {X: 1, Y: 1}} })
	add("a square within another", placed, func(a *arguments) { a.region = []api.Square{{}, {Level: 1}} })
	for how, nights := range map[string]api.Span{"before all": span(-1, 5), "behind all": span(5, api.MaxDay+1), "turned round": span(6, 5), "both too late": span(huge, huge), "both too early": span(-huge-1, -1)} {
		add("nights "+how, placed, func(a *arguments) { a.nights = nights })
		add("later nights "+how, []string{"Change"}, func(a *arguments) { a.now = nights })
	}
	return out
}

// P7.1, R2: ErrArg, also of cases that are too great or not possible.
func TestArguments(t *testing.T) {
	for how, spoil := range badArguments() {
		for what, f := range functions() {
			a := right()
			spoil(what, &a)
			if same(a, right()) {
				continue
			}
			wantError(t, what+" with "+how, f(sample(), a), api.ErrArg)
			wantError(t, what+" with "+how+" (of what is not possible)", f(tight(), a), api.ErrArg)
			if how != "a record too far" && how != "a name too great" {
				wantError(t, what+" with "+how+" (of what is too great)", f(great(), a), api.ErrArg)
			}
		}
	}
}

// P7.1: names of earlier versions are no names of a case.
func TestNamesOfACase(t *testing.T) {
	for _, what := range named() {
		f := functions()[what]
		a := right()
		for _, gone := range []int{2, 3} {
			a.name = gone
			wantError(t, what+" of a name that is gone", f(rich(), a), api.ErrArg)
		}
		for _, here := range []int{1, 4, 5, 6} {
			a.name = here
			if got := f(rich(), a); got.e == api.ErrArg {
				t.Errorf("%s of the name %d: error %d", what, here, got.e)
			}
		}
	}
}

// named returns the functions that have a name as an argument.
func named() []string {
	return []string{"SeriesOf", "Arc", "Given", "Count", "Where", "Shares", "Shares of most", "First", "LastOf", "Sure", "May", "Index", "Change"}
}

// P7.1, R2: ErrLimit and ErrClash, of the functions that need the net alone.
func TestNetErrors(t *testing.T) {
	for what, f := range withoutNet() {
		for how, c := range map[string]api.Case{"too great": great(), "not possible": tight()} {
			if got := f(c, right()); got.e != api.OK && got.e != api.ErrNone {
				t.Errorf("%s of what is %s: error %d", what, how, got.e)
			}
		}
	}
	for what, f := range withNet() {
		wantError(t, what+" of what is too great", f(great(), right()), api.ErrLimit)
		if got := f(tight(), right()); got.e == api.ErrClash {
			t.Errorf("%s of what is not possible: error %d", what, got.e)
		}
	}
	for what, f := range withFlow() {
		wantError(t, what+" of what is too great", f(great(), right()), api.ErrLimit)
		wantError(t, what+" of what is not possible", f(tight(), right()), api.ErrClash)
		a := right()
		a.name = 3
		wantError(t, what+" of another name", f(tight(), a), api.ErrClash)
		// Without effort and without records, too.
		a.region = nil
		wantError(t, what+" of no region", f(tight(), a), api.ErrClash)
	}
}
