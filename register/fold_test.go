package register_test

import (
	"slices"
	"testing"

	"noctuary/api"
	"noctuary/names"
	"noctuary/register"
)

// wantConflicts checks the conflicts of a set.
func wantConflicts(t *testing.T, what string, l []api.Note, want ...api.Name) {
	t.Helper()
	r, e := register.Fold(base(), l)
	wantSame(t, "Conflicts with "+what, r.Conflicts, e, want)
}

// recordAt returns the record of a line of the first sheet.
func recordAt(t *testing.T, l []api.Note, line int) api.Record {
	t.Helper()
	x, e := register.RecordOf(mustFold(t, l), first, line)
	if e != api.OK {
		t.Fatalf("RecordOf of line %d: error %d", line, e)
	}
	return x
}

// The chapter's examples.
func TestExamples(t *testing.T) {
	r := mustFold(t, sample())
	want := api.Register{
		Book:    base().Book,
		Catches: []api.Catch{{Sheet: first, Observer: 7, Square: api.Square{X: 5, Y: 6}, Night: 100, Lamp: 2, Total: span(10, 20)}},
		Records: []api.Record{
			{Sheet: first, Line: 0, Said: 1, Year: 3, Count: span(3, 9)},
			{Sheet: first, Line: 1, State: api.StateQueried, Said: 2, Year: 3, Count: span(5, 5), Names: []int{1, 3}, Seen: [][]int{{3, 1}}},
		},
		Conflicts: []api.Name{first},
	}
	wantSame(t, "Fold", r, api.OK, want)
	old, e := register.AsOf(base(), sample(), 5, 100)
	want.Records[1].State, want.Records[1].Names = api.StateOpen, nil
	wantSame(t, "AsOf", old, e, want)

	accepted := sample(judged(4, 4, api.NoteAccept, 1))
	wantSame(t, "the State with an earlier judgement", recordAt(t, accepted, 1).State, api.OK, api.StateQueried)
	gone := sample(undone(4, 6, name(1, 2)))
	wantSame(t, "the State with a withdrawal", recordAt(t, gone, 1).State, api.OK, api.StateOpen)
	chain, e := register.Chain(base(), gone, first, 1)
	wantSame(t, "Chain", chain, e, []api.Name{name(1, 3)})
	wantConflicts(t, "names that are not in the list", sample(named(4, 6, 0, 4)), first, name(1, 4))
	again := sample(caught(4, 9, sampleSheet()))
	wantConflicts(t, "the sheet again", again, first, name(1, 4))
	twin, e := register.Doubled(mustFold(t, again), sampleSheet())
	wantSame(t, "Doubled", twin, e, first)
	states, e := register.States(r)
	wantSame(t, "States", states, e, []int{1, 0, 1, 0})
	open, e := register.Open(r)
	wantSame(t, "Open", open, e, []api.Name{first})
}

// P6.1 (H8): the register of nothing is that of the base.
func TestFoldOfNothing(t *testing.T) {
	for _, l := range [][]api.Note{nil, {}} {
		r, e := register.Fold(base(), l)
		wantSame(t, "Fold", r, e, api.Register{Book: base().Book})
	}
}

// P6.1 (H8): of any sets, by the chapter's terms.
func TestFoldByTheTerms(t *testing.T) {
	r := random()
	conflicts, states, renamed, vouchers, series, changes := 0, [4]int{}, 0, 0, 0, 0
	for range 3000 {
		l := someSet(r)
		got, e := register.Fold(base(), l)
		wantSame(t, "Fold", got, e, byTheTerms(base(), l))
		conflicts += len(got.Conflicts)
		series += len(got.Series)
		changes += len(got.Book.Changes) - 2
		for _, x := range got.Records {
			states[x.State]++
			renamed += min(1, len(x.Names))
			vouchers += max(0, len(x.Seen)-1)
		}
	}
	if min(conflicts, states[0], states[1], states[2], states[3], renamed, vouchers, series, changes) < 100 {
		t.Errorf("the sets have too little: %d %v %d %d %d %d", conflicts, states, renamed, vouchers, series, changes)
	}
}

// P6.1 (H8): notes take effect by Day, then Clock, then House, then Num.
func TestOrderOfEffect(t *testing.T) {
	judge := func(day, clock, house, num, kind int) api.Note {
		n := judged(num, day, kind, 0)
		n.House, n.Clock = house, clock
		return n
	}
	sheet := caught(1, 0, sampleSheet())
	for what, l := range map[string][]api.Note{
		"Day":   {judge(4, 1, 1, 2, api.NoteAccept), judge(3, 9, 2, 9, api.NoteReject)},
		"Clock": {judge(4, 3, 1, 2, api.NoteAccept), judge(4, 2, 2, 9, api.NoteReject)},
		"House": {judge(4, 3, 1, 9, api.NoteReject), judge(4, 3, 2, 1, api.NoteAccept)},
		"Num":   {judge(4, 3, 1, 2, api.NoteReject), judge(4, 3, 1, 3, api.NoteAccept)},
	} {
		x := recordAt(t, append([]api.Note{sheet}, l...), 0)
		wantSame(t, "the State by "+what, x.State, api.OK, api.StateAccepted)
	}
}

// P6.1 (H8): a judgement may be done ahead of the sheet, and the sheet ahead of the list.
func TestRounds(t *testing.T) {
	l := []api.Note{
		caught(1, 5, otherSheet(1, line(6, 1, 1))),
		judged(2, 0, api.NoteAccept, 0),
		named(3, 1, 0, 3, 6),
		vouched(4, 2, 0, 1, 1),
		worked(5, 3, api.Series{Observer: 7, Said: 6, Year: 9, To: 5, Name: 6}),
		listed(6, 9, 9, []int{1}, []int{6, 7}),
	}
	l[0].Sheet.Year = 9
	r := mustFold(t, l)
	wantSame(t, "Records", r.Records, api.OK, []api.Record{{Sheet: first, State: api.StateAccepted, Said: 6, Year: 9, Count: span(1, 1), Names: []int{3, 6}, Seen: [][]int{{1, 1}}}})
	wantSame(t, "Series", r.Series, api.OK, []api.Series{l[4].Series})
	wantSame(t, "Conflicts", r.Conflicts, api.OK, nil)
}

// P6.1 (H8): the first round.
func TestChanges(t *testing.T) {
	changes := base().Book.Changes
	l := []api.Note{
		listed(1, 4, 9, []int{1}, []int{6}),  // the second one to take effect
		listed(2, 3, 8, []int{5}, []int{5}),  // the first one
		listed(3, 4, 9, []int{1}, []int{7}),  // 1 is gone
		listed(4, 5, 8, []int{6}, []int{1}),  // Year
		listed(5, 5, 9, []int{6}, []int{3}),  // 3 is there
		listed(6, 5, 10, []int{6}, []int{1}), // and back
	}
	r, e := register.Fold(base(), l)
	want := append(changes, l[1].Change, l[0].Change, l[5].Change)
	wantSame(t, "the Book", r.Book, e, api.NameBook{First: base().Book.First, Changes: want})
	wantSame(t, "Conflicts", r.Conflicts, e, []api.Name{name(1, 3), name(1, 4), name(1, 5)})
	b, e := register.BookOf(base(), l)
	wantSame(t, "BookOf", b, e, r.Book)
	b, e = register.BookOf(base(), append(l, undone(7, 0, name(1, 2)), undone(8, 0, name(1, 6))))
	wantSame(t, "BookOf with withdrawals", b, e, api.NameBook{First: base().Book.First, Changes: append(changes, l[0].Change)})
}

// P6.1 (H8): beyond MaxChanges all changes are conflicts, and leave the book as it is.
func TestTooManyChanges(t *testing.T) {
	var l []api.Note
	for num := 1; num <= api.MaxChanges; num++ {
		l = append(l, listed(num, 0, 9, []int{1}, []int{1}))
	}
	r := mustFold(t, l)
	wantSame(t, "Conflicts", r.Conflicts, api.OK, []api.Name{name(1, 63), name(1, 64)})
	if len(r.Book.Changes) != api.MaxChanges {
		t.Errorf("the Book has %d changes", len(r.Book.Changes))
	}
}

// P6.1 (H8): the second round, of sheets that are doubled.
func TestDoubledSheets(t *testing.T) {
	change := func(num, day int, change func(s *api.Sheet)) api.Note {
		s := sampleSheet()
		change(&s)
		return caught(num, day, s)
	}
	l := []api.Note{
		caught(1, 5, sampleSheet()),
		change(2, 5, func(s *api.Sheet) { s.Year, s.Lamp, s.Total, s.Lines = 9, 9, span(0, 0), s.Lines[:1] }),
		change(3, 5, func(s *api.Sheet) { s.Observer = 8 }),
		change(4, 5, func(s *api.Sheet) { s.Square.X = 6 }),
		change(5, 5, func(s *api.Sheet) { s.Square.Y = 5 }),
		change(6, 5, func(s *api.Sheet) { s.Night = 101 }),
	}
	r := mustFold(t, l)
	wantSame(t, "the catches", catchNames(r), api.OK, []api.Name{first, name(1, 3), name(1, 4), name(1, 5), name(1, 6)})
	wantSame(t, "Conflicts", r.Conflicts, api.OK, []api.Name{first, name(1, 2), name(1, 3), name(1, 4), name(1, 5), name(1, 6)})
	// The first one is the one that takes effect first, not the one with the least name.
	l[0].Day = 6
	r = mustFold(t, l[:2])
	wantSame(t, "the catches", r.Catches, api.OK, []api.Catch{{Sheet: name(1, 2), Observer: 7, Square: api.Square{X: 5, Y: 6}, Night: 100, Lamp: 9}})
	wantSame(t, "the records", r.Records, api.OK, []api.Record{{Sheet: name(1, 2), Said: 1, Year: 9, Count: span(3, 9)}})
	wantSame(t, "Conflicts", r.Conflicts, api.OK, []api.Name{first})
	// When that is withdrawn, the other one is none that is doubled.
	r = mustFold(t, append(l[:2], undone(3, 9, name(1, 2))))
	wantSame(t, "the catches", catchNames(r), api.OK, []api.Name{first})
}

func catchNames(r api.Register) []api.Name {
	var l []api.Name
	for _, c := range r.Catches {
		l = append(l, c.Sheet)
	}
	return l
}

// P6.1 (H8): what is noted of a line of a doubled sheet is a conflict.
func TestNotesOfDoubledSheets(t *testing.T) {
	about := judged(3, 7, api.NoteAccept, 0)
	about.Ref = name(1, 2)
	l := []api.Note{caught(1, 5, sheetOf(line(1, 1, 1))), caught(2, 5, sheetOf(line(1, 2, 2))), about}
	wantConflicts(t, "a judgement of a doubled sheet", l, name(1, 2), name(1, 3))
}

// P6.1 (H8): the lines whose names the version of the sheet's Year has become records.
func TestLinesOfSheets(t *testing.T) {
	lines := []api.Line{line(5, 1, 1), line(2, 1, 2, 1, 1), line(3, 1, 3), line(4, 1, 4), line(1, 1, 5), line(2, 1, 6), line(6, 0, 0)}
	for year, want := range map[int][]int{0: {1, 2, 4, 5}, 4: {1, 2, 4, 5}, 5: {0, 2, 3, 4}, 7: {0, 2, 3, 4}, 8: {0, 2, 4}, api.MaxYear: {0, 2, 4}} {
		s := sheetOf(lines...)
		s.Year = year
		r := mustFold(t, []api.Note{caught(1, 0, s)})
		var records []api.Record
		for _, i := range want {
			x := api.Record{Sheet: first, Line: i, Said: lines[i].Name, Year: year, Count: lines[i].Count}
			if i == 1 {
				x.Seen = [][]int{{1, 1}}
			}
			records = append(records, x)
		}
		wantSame(t, "Records", r.Records, api.OK, records)
		wantSame(t, "Conflicts", r.Conflicts, api.OK, []api.Name{first})
	}
	r := mustFold(t, []api.Note{caught(1, 0, sheetOf(line(1, 0, 0), line(1, 0, 0)))})
	wantSame(t, "Conflicts of known names", r.Conflicts, api.OK, nil)
	r = mustFold(t, []api.Note{caught(1, 0, sheetOf(line(9, 0, 0)))})
	if len(r.Catches) != 1 || len(r.Records) != 0 || len(r.Conflicts) != 1 {
		t.Errorf("Fold of an unknown name alone: %v", r)
	}
}

// P6.1 (H8): the third round, of lines that are not there.
func TestNotesOfNoRecord(t *testing.T) {
	for kind := api.NoteAccept; kind <= api.NoteVoucher; kind++ {
		for _, x := range []struct {
			ref  api.Name
			line int
		}{{first, 2}, {first, 3}, {first, 199}, {name(1, 2), 0}, {name(2, 1), 0}, {name(1, 4), 0}} {
			n := noteOf(kind)
			n.Num, n.Clock, n.Ref, n.Line = 4, 4, x.ref, x.line
			l := sample(n)
			wantConflicts(t, "no record", l, first, name(1, 4))
			wantSame(t, "Records", mustFold(t, l).Records, api.OK, mustFold(t, sample()).Records)
		}
	}
}

// P6.1 (H8): judgements.
func TestJudgements(t *testing.T) {
	for kind, want := range map[int]int{api.NoteAccept: 1, api.NoteQuery: 2, api.NoteReject: 3} {
		wantSame(t, "State", recordAt(t, sample(judged(4, 7, kind, 1)), 1).State, api.OK, want)
		wantSame(t, "State of another line", recordAt(t, sample(judged(4, 7, kind, 1)), 0).State, api.OK, 0)
		wantSame(t, "State", recordAt(t, sample(judged(4, 7, kind, 0)), 0).State, api.OK, want)
	}
	wantConflicts(t, "judgements", sample(judged(4, 7, api.NoteAccept, 0), judged(5, 7, api.NoteAccept, 0)), first)
}

// P6.1 (H8): names that are given anew must be of the version of the record's Year; otherwise the old ones stay.
func TestNaming(t *testing.T) {
	for _, x := range []struct {
		l     []int
		right bool
	}{{[]int{1}, true}, {[]int{1, 2, 3}, true}, {[]int{2}, true}, {[]int{4}, false}, {[]int{1, 4}, false}, {[]int{5, 9}, false}, {[]int{3, 60000}, false}} {
		l := sample(named(4, 7, 1, x.l...))
		want := []int{1, 3}
		if x.right {
			want = x.l
			wantConflicts(t, "names", l, first)
		} else {
			wantConflicts(t, "wrong names", l, first, name(1, 4))
		}
		wantSame(t, "Names", recordAt(t, l, 1).Names, api.OK, want)
	}
	late := sampleSheet()
	late.Year, late.Lines[1].Name = 6, 4
	l := []api.Note{caught(1, 0, late), named(2, 0, 1, 1, 3, 4, 5), named(3, 1, 1, 2)}
	wantSame(t, "Names of a later year", recordAt(t, l, 1).Names, api.OK, []int{1, 3, 4, 5})
	wantConflicts(t, "a name of an earlier year", l, first, name(1, 3))
}

// P6.1 (H8): vouchers stand in order behind that of the line.
func TestVouchers(t *testing.T) {
	l := sample(vouched(4, 7, 1, 1, 1), vouched(5, 6, 1, 2, 2), vouched(6, 9, 0, 3, 7), vouched(7, 9, 0, 3, 7))
	wantSame(t, "Seen", recordAt(t, l, 1).Seen, api.OK, [][]int{{3, 1}, {2, 2}, {1, 1}})
	wantSame(t, "Seen of a line without a voucher", recordAt(t, l, 0).Seen, api.OK, [][]int{{3, 7}, {3, 7}})
	wantConflicts(t, "vouchers", l, first)
}

// P6.1 (H8): vouchers by a single character.
func TestVouchersOfOneCharacter(t *testing.T) {
	b := base()
	b.Matrix = api.Matrix{States: []int{2}}
	r, e := register.Fold(b, []api.Note{caught(1, 0, sheetOf(line(1, 0, 0, 1), line(2, 0, 0))), vouched(2, 0, 0, 3)})
	wantSame(t, "Records", r.Records, e, []api.Record{{Sheet: first, Said: 1, Year: 3, Seen: [][]int{{1}, {3}}}, {Sheet: first, Line: 1, Said: 2, Year: 3}})
}

// P6.1 (H8): series.
func TestSeries(t *testing.T) {
	series := func(num, day, said, year, to int) api.Note {
		s := sampleSeries()
		s.Said, s.Year, s.Name = said, year, to
		return worked(num, day, s)
	}
	l := []api.Note{
		series(1, 9, 2, 4, 3), series(2, 3, 5, 5, 4), series(3, 3, 2, 5, 5), series(4, 3, 5, 5, 2), series(5, 3, 9, 5, 9), series(6, 2, 1, 200, 1), series(7, 3, 4, 8, 3), series(8, 9, 2, 4, 3),
	}
	r := mustFold(t, l)
	wantSame(t, "Series", r.Series, api.OK, []api.Series{l[5].Series, l[1].Series, l[0].Series, l[7].Series})
	wantSame(t, "Conflicts", r.Conflicts, api.OK, []api.Name{name(1, 3), name(1, 4), name(1, 5), name(1, 7)})
	r = mustFold(t, append(l, undone(9, 0, name(1, 6))))
	wantSame(t, "Series with a withdrawal", r.Series, api.OK, []api.Series{l[1].Series, l[0].Series, l[7].Series})
}

// P6.1 (H8): withdrawals, whenever they were done.
func TestWithdrawals(t *testing.T) {
	other := undone(1, 0, name(1, 3))
	other.House = 2
	wantConflicts(t, "a withdrawal of each kind", append(oneOfEach(), undone(10, 0, name(1, 1)), undone(11, 0, name(1, 7)), undone(12, 0, name(1, 8))), name(1, 2), name(1, 3), name(1, 5), name(1, 6))
	wantConflicts(t, "a withdrawal of nothing", sample(undone(4, 9, name(2, 3))), first, name(1, 4))
	wantConflicts(t, "a withdrawal of itself", sample(undone(4, 9, name(1, 4))), first, name(1, 4))
	wantConflicts(t, "a withdrawal of a withdrawal", sample(undone(4, 9, name(1, 2)), undone(5, 9, name(1, 4))), first, name(1, 5))
	wantConflicts(t, "two withdrawals", sample(undone(4, 9, name(1, 2)), undone(5, 9, name(1, 2)), other), first)
	wantConflicts(t, "a withdrawal of a conflict", sample(named(4, 6, 0, 4), undone(5, 9, name(1, 4))), first)
	wantConflicts(t, "a withdrawal of the sheet", sample(undone(4, 9, first)), name(1, 2), name(1, 3))
	wantConflicts(t, "withdrawals alone", manyNotes(2, 3), name(2, 1), name(2, 2), name(2, 3))
	early := undone(4, 0, name(1, 2))
	early.Clock = 1
	x := recordAt(t, sample(early), 1)
	wantSame(t, "State with an early withdrawal", x.State, api.OK, api.StateOpen)
	twice := sample(undone(4, 9, name(1, 2)), undone(5, 9, name(1, 4)))
	wantSame(t, "State with a withdrawal withdrawn", recordAt(t, twice, 1).State, api.OK, api.StateOpen)
}

// P6.1 (H8): conflicts are in order of their names, those of all rounds together.
func TestConflicts(t *testing.T) {
	other := judged(1, 0, api.NoteAccept, 9)
	other.House = 2
	late := listed(2, 9, 0, []int{1}, []int{6})
	late.House = 2
	l := []api.Note{
		undone(1, 9, name(5, 5)), judged(2, 8, api.NoteReject, 7), caught(3, 7, sampleSheet()), caught(4, 8, sampleSheet()), listed(5, 9, 0, []int{1}, []int{6}), worked(6, 0, api.Series{Observer: 1, Said: 9, Name: 1}), other, late,
	}
	wantConflicts(t, "all", l, name(1, 1), name(1, 2), name(1, 3), name(1, 4), name(1, 5), name(1, 6), name(2, 1), name(2, 2))
}

// P6.1 (H9): what was done by a day and known by a clock.
func TestAsOf(t *testing.T) {
	l := sample(undone(4, 7, name(1, 2)))
	for _, x := range []struct {
		day, clock int
		notes      []api.Note
	}{
		{6, 2, l[:2]}, {6, 3, l[:3]}, {7, 3, l[:3]}, {6, 4, l[:3]}, {7, 4, l}, {5, 4, l[:1]}, {5, 1, l[:1]}, {4, 4, nil}, {7, 0, nil}, {-1, huge, nil}, {huge, -1, nil}, {huge, huge, l}, {-huge - 1, -huge - 1, nil}, {huge, 1, l[:1]},
	} {
		got, e := register.AsOf(base(), l, x.day, x.clock)
		wantSame(t, "AsOf", got, e, mustFold(t, x.notes))
	}
}

// P6.3: AsOf is Fold of the notes that are not beyond the day and the clock, and further ones beyond one of both change nothing.
func TestWhatWasKnown(t *testing.T) {
	r := random()
	for range 400 {
		l := someSet(r)
		all, e := register.AsOf(base(), l, 3, 3)
		wantSame(t, "AsOf of all", all, e, mustFold(t, l))
		day, clock := r.IntN(4), 1+r.IntN(3)
		known := without(l, func(n api.Note) bool { return n.Day > day || n.Clock > clock })
		got, e := register.AsOf(base(), l, day, clock)
		wantSame(t, "AsOf", got, e, mustFold(t, known))
		further := someNote(r, 3, 1)
		further.Day, further.Clock = pick(r, day, day+1, day+9), clock+r.IntN(2)
		if further.Day == day {
			further.Clock = clock + 1
		}
		more, e := register.AsOf(base(), append(l, further), day, clock)
		wantSame(t, "AsOf with a further note", more, e, got)
	}
}

// P6.4: records are lines of sheets that were caught.
func TestRecords(t *testing.T) {
	r := random()
	for range 400 {
		l := someSet(r)
		got := mustFold(t, l)
		lines, visits := map[string]bool{}, map[string]bool{}
		for _, c := range got.Catches {
			visits[text([]any{c.Observer, c.Square, c.Night})] = true
		}
		for _, x := range got.Records {
			lines[text([]any{x.Sheet, x.Line})] = true
			_, e := register.CatchOf(got, x.Sheet)
			i := slices.IndexFunc(l, func(n api.Note) bool { return nameOf(n) == x.Sheet })
			if e != api.OK || l[i].Kind != api.NoteSheet || x.Line >= len(l[i].Sheet.Lines) {
				t.Fatalf("%v is no line of a sheet that was caught", x)
			}
			s := l[i].Sheet.Lines[x.Line]
			v, _ := names.VersionOf(got.Book, x.Year)
			if has, e := names.Has(got.Book, v, x.Said); s.Name != x.Said || s.Count != x.Count || x.Year != l[i].Sheet.Year || e != api.OK || !has {
				t.Errorf("the record %v of %v", x, s)
			}
		}
		if len(lines) != len(got.Records) || len(visits) != len(got.Catches) {
			t.Errorf("two records of a line, or catches of a visit: %v", got)
		}
	}
}

// P6.5: what is noted of a record is in its chain.
func TestChainsOfRecords(t *testing.T) {
	r := random()
	for range 400 {
		l := someSet(r)
		got := mustFold(t, l)
		byName := map[api.Name]api.Note{}
		for _, n := range l {
			byName[nameOf(n)] = n
		}
		for _, x := range got.Records {
			want := api.Record{Sheet: x.Sheet, Line: x.Line, Said: x.Said, Year: x.Year, Count: x.Count}
			if seen := byName[x.Sheet].Sheet.Lines[x.Line].Seen; len(seen) > 0 {
				want.Seen = append(want.Seen, seen)
			}
			chain, e := register.Chain(base(), l, x.Sheet, x.Line)
			if e != api.OK {
				t.Fatalf("Chain of %v: error %d", x, e)
			}
			for _, link := range chain {
				switch n := byName[link]; n.Kind {
				case api.NoteAccept:
					want.State = api.StateAccepted
				case api.NoteQuery:
					want.State = api.StateQueried
				case api.NoteReject:
					want.State = api.StateRejected
				case api.NoteVoucher:
					want.Seen = append(want.Seen, n.Seen)
				case api.NoteName:
					if !slices.Contains(got.Conflicts, link) {
						want.Names = n.Names
					}
				}
			}
			wantSame(t, "the record", x, api.OK, want)
		}
	}
}

// P6.6: a withdrawal changes the record of its note's line alone, and takes away what it withdraws.
func TestWithdrawalsOfSets(t *testing.T) {
	r, tried := random(), 0
	for range 1000 {
		l := someSet(r)
		left := without(l, func(n api.Note) bool {
			if n.Kind != api.NoteWithdraw {
				return isGone(l, nameOf(n))
			}
			return slices.ContainsFunc(l, func(x api.Note) bool { return nameOf(x) == n.Ref && x.Kind != api.NoteWithdraw })
		})
		wantSame(t, "Fold", mustFold(t, l), api.OK, mustFold(t, left))
		i := slices.IndexFunc(l, func(n api.Note) bool { return api.NoteAccept <= n.Kind && n.Kind <= api.NoteVoucher })
		if i < 0 {
			continue
		}
		tried++
		gone := undone(1, r.IntN(4), nameOf(l[i]))
		gone.House = 3
		before, behind := mustFold(t, l), mustFold(t, append(l, gone))
		wantSame(t, "Catches", behind.Catches, api.OK, before.Catches)
		wantSame(t, "Series", behind.Series, api.OK, before.Series)
		wantSame(t, "Book", behind.Book, api.OK, before.Book)
		of := func(x api.Record) bool { return x.Sheet == l[i].Ref && x.Line == l[i].Line }
		wantSame(t, "Records", slices.DeleteFunc(behind.Records, of), api.OK, slices.DeleteFunc(before.Records, of))
	}
	if tried < 100 {
		t.Errorf("only %d sets have notes of lines", tried)
	}
}

// P6.7: a further sheet that is a twin changes nothing but Conflicts.
func TestTwins(t *testing.T) {
	r, tried := random(), 0
	for range 600 {
		l := someSet(r)
		sheets := without(l, func(n api.Note) bool { return n.Kind != api.NoteSheet || isGone(l, nameOf(n)) })
		if len(sheets) == 0 {
			continue
		}
		tried++
		s := someSheet(r)
		one := pick(r, sheets...).Sheet
		s.Observer, s.Square, s.Night = one.Observer, one.Square, one.Night
		twin := caught(99, 9, s)
		twin.House = 3
		before, behind := mustFold(t, l), mustFold(t, append(l, twin))
		before.Conflicts = append(before.Conflicts, name(3, 99))
		wantSame(t, "Fold with a twin", behind, api.OK, before)
	}
	if tried < 100 {
		t.Errorf("only %d sets have sheets", tried)
	}
}

// P6.8: the Book is valid, and begins with the base's changes.
func TestBooks(t *testing.T) {
	r := random()
	for range 400 {
		l := someSet(r)
		got := mustFold(t, l).Book
		if e, _ := names.Check(got); e != api.OK || len(got.Changes) < 2 {
			t.Fatalf("the Book %v: error %d", got, e)
		}
		wantSame(t, "the beginning of the Book", api.NameBook{First: got.First, Changes: got.Changes[:2]}, api.OK, base().Book)
		b, e := register.BookOf(base(), l)
		wantSame(t, "BookOf", b, e, got)
	}
}

// greatestBase has the greatest matrix, and lists of names.
func greatestBase() api.Base {
	b := base()
	b.Matrix = api.Matrix{States: slices.Repeat([]int{api.MaxStates}, api.MaxChars)}
	for i := range api.MaxRows {
		b.Matrix.Rows = append(b.Matrix.Rows, api.Row{Name: i + 1, May: slices.Repeat([]int{1<<api.MaxStates - 1}, api.MaxChars)})
	}
	b.Book = bookChanges(api.MaxChanges)
	b.Book.First = longList(api.MaxNames)
	for i := range b.Book.Changes {
		b.Book.Changes[i].From, b.Book.Changes[i].To = b.Book.First, b.Book.First
	}
	return b
}

// P6.1 (H8): the greatest sets are done soon.
func TestGreatestSets(t *testing.T) {
	b := greatestBase()
	seen := slices.Repeat([]int{5}, api.MaxChars)
	var l []api.Note
	for house := 1; house <= 2; house++ {
		for num := 1; num <= api.MaxNotes/2; num++ {
			n := caught(num, 0, otherSheet(num, slices.Repeat([]api.Line{line(100+num, 0, 1, seen...)}, api.MaxLines)...))
			n.House, n.Sheet.Observer, n.Sheet.Year = house, house, num
			l = append(l, n)
		}
	}
	r, e := register.Fold(b, l)
	if e != api.OK || len(r.Records) != api.MaxNotes*api.MaxLines || len(r.Conflicts) != 0 {
		t.Errorf("Fold: %d records, error %d", len(r.Records), e)
	}
	var changes []api.Note
	for num := 1; num <= api.MaxNotes; num++ {
		changes = append(changes, listed(num, 0, 0, longList(api.MaxList), longList(api.MaxList)))
	}
	r, e = register.Fold(b, changes)
	if e != api.OK || len(r.Conflicts) != api.MaxNotes {
		t.Errorf("Fold of changes: %d conflicts, error %d", len(r.Conflicts), e)
	}
	m, e := register.Merge(b, l[:200], l[200:])
	if e != api.OK || len(m) != api.MaxNotes {
		t.Errorf("Merge: %d notes, error %d", len(m), e)
	}
}
