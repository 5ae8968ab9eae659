package sheets_test

import (
	"math/rand/v2"
	"slices"
	"testing"

	"noctuary/api"
	"noctuary/keys"
	"noctuary/names"
	"noctuary/sheets"
)

// P4.1 (R3): sheets that are valid.
func TestCheck(t *testing.T) {
	good := map[string]api.Sheet{
		"the sample":                    sample(),
		"the least":                     leastSheet(),
		"the greatest":                  greatestSheet(),
		"lines that do not agree":       sheet(span(0, 0), line(1, 5, 5)),
		"a name twice, not in order":    sheet(span(0, 9), line(5, 1, 2), line(3, 0, 0), line(5, 2, 2)),
		"lists of Seen of two lengths":  sheet(span(0, 9), line(5, 1, 2, 1), line(3, 0, 0, 1, 2, 3), line(4, 0, 0)),
		"a Seen that is empty, not nil": sheet(span(0, 9), line(5, 1, 2, []int{}...)),
	}
	for what, s := range good {
		if e, n := sheets.Check(s); e != api.OK || n != 0 {
			t.Errorf("Check of %s: error %d, %d", what, e, n)
		}
	}
	for _, x := range fields() {
		for _, n := range []int{x.least, x.most} {
			s := changed(func(s *api.Sheet) { *x.at(s) = n })
			if e, n := sheets.Check(s); e != api.OK || n != 0 {
				t.Errorf("Check of the %s %d: error %d, %d", x.what, *x.at(&s), e, n)
			}
		}
	}
}

// P4.1 (R3): the first of the conditions that does not hold.
func TestCheckOfBadSheets(t *testing.T) {
	for _, x := range badSheets() {
		if e, n := sheets.Check(x.s); e != api.ErrSheet || n != x.number {
			t.Errorf("Check of %s: error %d, %d; want %d", x.what, e, n, x.number)
		}
	}
	many := tooManyLines()
	for _, s := range []api.Sheet{many, {Lines: many.Lines}, {Night: -1, Lines: make([]api.Line, 500)}} {
		if e, n := sheets.Check(s); e != api.ErrLimit || n != 0 {
			t.Errorf("Check of too many lines: error %d, %d", e, n)
		}
	}
}

// P4.1: ErrSheet, alone, in all functions with a sheet; ahead of ErrArg.
func TestErrSheet(t *testing.T) {
	for name, of := range functions() {
		for _, x := range badSheets() {
			wantError(t, name+" of "+x.what, of(x.s), api.ErrSheet)
		}
		wantError(t, name+" of too many lines", of(tooManyLines()), api.ErrSheet)
	}
	for _, x := range badSheets() {
		wantError(t, "Twin of bad sheets", truth(sheets.Twin(x.s, x.s)), api.ErrSheet)
		wantError(t, "Merge of bad sheets", oneSheet(sheets.Merge(x.s, x.s)), api.ErrSheet)
	}
}

// P4.1: lamps, rules, a book or a matrix that are not valid come ahead of a sheet that is not.
func TestErrorsAheadOfErrSheet(t *testing.T) {
	badLamps := []api.Lamp{{}}
	badRules := []api.Rule{{}}
	badBook := api.NameBook{First: []int{2, 1}}
	longBook := api.NameBook{First: []int{1}, Changes: slices.Repeat([]api.Change{{From: []int{1}, To: []int{1}}}, api.MaxChanges+1)}
	badChange := api.NameBook{First: []int{1}, Changes: []api.Change{{From: []int{2}, To: []int{1}}}}
	for _, s := range []api.Sheet{sample(), {}, tooManyLines()} {
		wantError(t, "Effort", number(sheets.Effort(badLamps, []api.Sheet{s})), api.ErrLamps)
		wantError(t, "Doubts", doubts(sheets.Doubts(badRules, s)), api.ErrRules)
		wantError(t, "Unknown", list(sheets.Unknown(badBook, s)), api.ErrBook)
		wantError(t, "Unknown of no book", list(sheets.Unknown(api.NameBook{}, s)), api.ErrBook)
		wantError(t, "Unknown of a long book", list(sheets.Unknown(longBook, s)), api.ErrBook)
		wantError(t, "Unknown of a bad change", list(sheets.Unknown(badChange, s)), api.ErrBook)
		wantError(t, "Vouchers", list(sheets.Vouchers(api.Matrix{}, s)), api.ErrMatrix)
	}
	withoutVoucher := sheet(span(0, 9), line(1, 0, 0))
	wantError(t, "Vouchers of no voucher", list(sheets.Vouchers(api.Matrix{States: []int{1}}, withoutVoucher)), api.ErrMatrix)
	wantError(t, "Unknown of no lines", list(sheets.Unknown(badBook, leastSheet())), api.ErrBook)
}

// P4.1 (R10), P4.7: twins have the same Observer, Square and Night.
func TestTwin(t *testing.T) {
	one := sample()
	others := map[string]struct {
		s    api.Sheet
		twin bool
	}{
		"itself":           {sample(), true},
		"another Year":     {changed(func(s *api.Sheet) { s.Year = 4 }), true},
		"another Lamp":     {changed(func(s *api.Sheet) { s.Lamp = 3 }), true},
		"another Total":    {sheet(span(0, 1), one.Lines...), true},
		"other lines":      {sheet(span(10, 20), line(1, 0, 0)), true},
		"another Observer": {changed(func(s *api.Sheet) { s.Observer = 8 }), false},
		"another X":        {changed(func(s *api.Sheet) { s.Square.X = 6 }), false},
		"another Y":        {changed(func(s *api.Sheet) { s.Square.Y = 5 }), false},
		"another Night":    {changed(func(s *api.Sheet) { s.Night = 101 }), false},
	}
	for what, x := range others {
		is, e := sheets.Twin(one, x.s)
		wantSame(t, "Twin with "+what, is, e, x.twin)
		is, e = sheets.Twin(x.s, one)
		wantSame(t, "Twin of "+what, is, e, x.twin)
	}
	for _, a := range others {
		for _, b := range others {
			if a.twin && b.twin {
				is, e := sheets.Twin(a.s, b.s)
				wantSame(t, "Twin of two twins", is, e, true)
			}
		}
	}
}

// P4.1 (R11).
func TestLines(t *testing.T) {
	l, e := sheets.Lines(sample(), 8)
	wantList(t, "Lines", l, e, 1)
	s := sheet(span(0, 9), line(5, 1, 2), line(api.MaxID, 0, 0), line(5, 2, 2), line(1, 0, 0), line(5, 0, 0, 1))
	for name, want := range map[int][]int{5: {0, 2, 4}, 1: {3}, api.MaxID: {1}, 2: {}, 6: {}} {
		l, e := sheets.Lines(s, name)
		wantList(t, "Lines", l, e, want...)
	}
	l, e = sheets.Lines(leastSheet(), 5)
	wantList(t, "Lines of none", l, e)
	for _, name := range []int{0, -1, api.MaxID + 1, huge, -huge - 1} {
		wantError(t, "Lines of no name", list(sheets.Lines(s, name)), api.ErrArg)
	}
}

// P4.1 (R12): the version is that of the sheet's Year.
func TestUnknown(t *testing.T) {
	l, e := sheets.Unknown(book(), sample())
	wantList(t, "Unknown", l, e, 0, 1)
	s := sheet(span(0, 9), line(5, 1, 2), line(2, 0, 0), line(3, 2, 2), line(4, 0, 0), line(1, 0, 0), line(5, 0, 0), line(6, 0, 0))
	for year, want := range map[int][]int{0: {0, 3, 5, 6}, 4: {0, 3, 5, 6}, 5: {1, 6}, 7: {1, 6}, 8: {1, 3, 6}, api.MaxYear: {1, 3, 6}} {
		s.Year = year
		l, e := sheets.Unknown(book(), s)
		wantList(t, "Unknown", l, e, want...)
	}
	l, e = sheets.Unknown(book(), leastSheet())
	wantList(t, "Unknown of no lines", l, e)
	l, e = sheets.Unknown(api.NameBook{First: []int{4, 8}}, sample())
	wantList(t, "Unknown of none", l, e)
}

// P4.8: Unknown has just the lines for which names.Has of the version of the Year is false.
func TestUnknownAndHas(t *testing.T) {
	r := random()
	for range 100 {
		s := sheet(span(0, 0))
		s.Year = r.IntN(10)
		for range r.IntN(9) {
			s.Lines = append(s.Lines, line(1+r.IntN(6), 0, 0))
		}
		v, _ := names.VersionOf(book(), s.Year)
		var want []int
		for i, l := range s.Lines {
			if has, e := names.Has(book(), v, l.Name); e == api.OK && !has {
				want = append(want, i)
			}
		}
		l, e := sheets.Unknown(book(), s)
		wantList(t, "Unknown", l, e, want...)
	}
}

// P4.1 (R13).
func TestVouchers(t *testing.T) {
	// The rows are 4: {1, 3}, 6: {2, 1} and 8: {1, 6}.
	cases := []struct {
		what string
		l    api.Line
		odd  bool
	}{
		{"no voucher", line(4, 0, 0), false},
		{"no voucher of no row", line(5, 0, 0), false},
		{"a voucher that fits", line(4, 0, 0, 1, 1), false},
		{"one that may be", line(4, 0, 0, 3, 6), false},
		{"one of all states", line(6, 0, 0, 3, 7), false},
		{"another first state", line(4, 0, 0, 2, 1), true},
		{"another last state", line(8, 0, 0, 1, 1), true},
		{"no row", line(5, 0, 0, 1, 1), false},
		{"no row, nothing fits", line(5, 0, 0, 2, 4), false},
		{"too short", line(4, 0, 0, 1), true},
		{"too long", line(4, 0, 0, 1, 1, 1), true},
		{"a state too many", line(4, 0, 0, 1, 8), true},
		{"not valid, and no row", line(5, 0, 0, 1), true},
		{"a state too many, and no row", line(5, 0, 0, 4, 1), true},
	}
	all := sheet(span(0, 9))
	var want []int
	for i, x := range cases {
		l, e := sheets.Vouchers(matrix(), sheet(span(0, 9), x.l))
		if x.odd {
			wantList(t, "Vouchers of "+x.what, l, e, 0)
			want = append(want, i)
		} else {
			wantList(t, "Vouchers of "+x.what, l, e)
		}
		all.Lines = append(all.Lines, x.l)
	}
	l, e := sheets.Vouchers(matrix(), all)
	wantList(t, "Vouchers of all", l, e, want...)
	l, e = sheets.Vouchers(api.Matrix{States: []int{2, 3}}, all)
	wantList(t, "Vouchers without rows", l, e, 9, 10, 11, 12, 13)
	l, e = sheets.Vouchers(matrix(), leastSheet())
	wantList(t, "Vouchers of no lines", l, e)
}

// P4.8: a line among Vouchers has a name that is not among keys.Remain of its Seen, or its Seen is not valid for the matrix; a line with a voucher and a row that is not among them has one that is.
func TestVouchersAndRemain(t *testing.T) {
	r := random()
	for range 200 {
		s := sheet(span(0, 0))
		for range r.IntN(9) {
			s.Lines = append(s.Lines, line(3+r.IntN(7), 0, 0, someSeen(r)...))
		}
		l, e := sheets.Vouchers(matrix(), s)
		if e != api.OK || !slices.IsSorted(l) {
			t.Fatalf("Vouchers: %v, error %d", l, e)
		}
		for i, x := range s.Lines {
			remain, e := keys.Remain(matrix(), x.Seen)
			_, none := keys.Row(matrix(), x.Name)
			want := len(x.Seen) > 0 && (e != api.OK || none == api.OK && !slices.Contains(remain, x.Name))
			if slices.Contains(l, i) != want {
				t.Errorf("%v among Vouchers: %v", x, !want)
			}
		}
	}
}

// someSeen returns what may have been seen of a voucher, by the matrix or not.
func someSeen(r *rand.Rand) []int {
	switch r.IntN(8) {
	case 0:
		return nil
	case 1:
		return []int{1 + r.IntN(3)}
	}
	return []int{1 + r.IntN(3), 1 + r.IntN(8)}
}

// P4.1: arguments are neither changed nor kept (R7).
func TestArguments(t *testing.T) {
	for name, of := range functions() {
		s := sample()
		of(s)
		if !sameSheet(s, sample()) {
			t.Errorf("%s changes its argument: %v", name, s)
		}
	}
}
