package sheets_test

import (
	"math/rand/v2"
	"slices"
	"testing"

	"noctuary/api"
	"noctuary/sheets"
)

// P4.1 (R17): the chapter's example.
func TestMerge(t *testing.T) {
	other := sheet(span(15, 30), line(8, 4, 6, 1, 1))
	s, e := sheets.Merge(sample(), other)
	wantSheet(t, "Merge", s, e, sheet(span(15, 20), line(4, 3, 9), line(8, 5, 5, 1, 1)))
	s, e = sheets.Merge(other, sample())
	wantSheet(t, "Merge", s, e, sheet(span(15, 20), line(8, 5, 5, 1, 1), line(4, 3, 9)))
}

// P4.1 (R17): which lines belong together, and in which order the lines come.
func TestMergeOfLines(t *testing.T) {
	any := span(0, 9)
	cases := []struct {
		what       string
		a, b, want []api.Line
	}{
		{"none", nil, nil, nil},
		{"none with one", nil, []api.Line{line(4, 1, 2, 7)}, []api.Line{line(4, 1, 2, 7)}},
		{"one with none", []api.Line{line(4, 1, 2, 7)}, nil, []api.Line{line(4, 1, 2, 7)}},
		{"other names", []api.Line{line(5, 1, 1), line(2, 1, 1)}, []api.Line{line(9, 1, 1), line(3, 1, 1)},
			[]api.Line{line(5, 1, 1), line(2, 1, 1), line(9, 1, 1), line(3, 1, 1)}},
		{"another order", []api.Line{line(5, 1, 3), line(2, 4, 6)}, []api.Line{line(2, 5, 7), line(3, 0, 0), line(5, 2, 2)},
			[]api.Line{line(5, 2, 2), line(2, 5, 6), line(3, 0, 0)}},
		{"the first with the first", []api.Line{line(5, 1, 1), line(2, 0, 0), line(5, 2, 2)}, []api.Line{line(5, 0, 1), line(5, 2, 3)},
			[]api.Line{line(5, 1, 1), line(2, 0, 0), line(5, 2, 2)}},
		{"more on the right", []api.Line{line(5, 1, 5)}, []api.Line{line(5, 5, 9), line(5, 8, 8), line(2, 0, 0), line(5, 7, 7)},
			[]api.Line{line(5, 5, 5), line(5, 8, 8), line(2, 0, 0), line(5, 7, 7)}},
		{"more on the left", []api.Line{line(5, 1, 1), line(5, 2, 2), line(5, 3, 3)}, []api.Line{line(5, 0, 9), line(5, 0, 9)},
			[]api.Line{line(5, 1, 1), line(5, 2, 2), line(5, 3, 3)}},
		{"Seen of one", []api.Line{line(5, 1, 1, 3, 6), line(6, 1, 1)}, []api.Line{line(5, 1, 1), line(6, 1, 1, 9)},
			[]api.Line{line(5, 1, 1, 3, 6), line(6, 1, 1, 9)}},
		{"Seen of both", []api.Line{line(5, 1, 1, 3, 6, 1<<15+1)}, []api.Line{line(5, 1, 1, 6, 12, 1<<15+2)},
			[]api.Line{line(5, 1, 1, 2, 4, 1<<15)}},
		{"counts that touch", []api.Line{line(5, 1, 4)}, []api.Line{line(5, 4, 6)}, []api.Line{line(5, 4, 4)}},
	}
	for _, x := range cases {
		s, e := sheets.Merge(sheet(any, x.a...), sheet(any, x.b...))
		wantSheet(t, "Merge of "+x.what, s, e, sheet(any, x.want...))
	}
	s, e := sheets.Merge(sheet(span(1, 5)), sheet(span(5, 9)))
	wantSheet(t, "Merge of totals that touch", s, e, sheet(span(5, 5)))
	s, e = sheets.Merge(sheet(span(0, 1), line(5, 3, 3)), sheet(span(1, 2), line(5, 3, 3)))
	wantSheet(t, "Merge of what does not agree", s, e, sheet(span(1, 1), line(5, 3, 3)))
}

// P4.1 (R17): ErrNone.
func TestMergeOfContradictions(t *testing.T) {
	any := span(0, 9)
	cases := []struct {
		what string
		a, b api.Line
	}{
		{"counts", line(5, 1, 2), line(5, 3, 4)},
		{"counts, and no sets", line(5, 1, 2, 1), line(5, 3, 4, 2)},
		{"lists of two lengths", line(5, 1, 2, 1), line(5, 1, 2, 1, 1)},
		{"lists of two other lengths", line(5, 1, 2, 1, 1, 1), line(5, 1, 2, 1)},
		{"sets", line(5, 1, 2, 1), line(5, 1, 2, 2)},
		{"the first sets", line(5, 1, 2, 4, 1), line(5, 1, 2, 3, 1)},
		{"the last sets", line(5, 1, 2, 1, 1, 6), line(5, 1, 2, 1, 1, 9)},
	}
	for _, x := range cases {
		wantError(t, "Merge of "+x.what, oneSheet(sheets.Merge(sheet(any, x.a), sheet(any, x.b))), api.ErrNone)
		wantError(t, "Merge of "+x.what, oneSheet(sheets.Merge(sheet(any, x.b), sheet(any, x.a))), api.ErrNone)
		second := sheet(any, line(9, 0, 0), line(5, 0, 9, 7, 7, 7), x.b)
		wantError(t, "Merge of second "+x.what, oneSheet(sheets.Merge(sheet(any, line(5, 0, 9), x.a), second)), api.ErrNone)
	}
	wantError(t, "Merge of totals", oneSheet(sheets.Merge(sheet(span(0, 4)), sheet(span(5, 9)))), api.ErrNone)
	wantError(t, "Merge of totals", oneSheet(sheets.Merge(sheet(span(5, 9)), sheet(span(0, 4)))), api.ErrNone)
}

// numbered returns n lines with the names from one on.
func numbered(first, n int) []api.Line {
	var out []api.Line
	for i := range n {
		out = append(out, line(first+i, 0, 9))
	}
	return out
}

// P4.1 (R17): ErrLimit, behind ErrNone.
func TestMergeLimit(t *testing.T) {
	any := span(0, 9)
	a := sheet(any, numbered(1, 150)...)
	s, e := sheets.Merge(a, sheet(any, numbered(101, 100)...))
	wantSheet(t, "Merge with 200 lines", s, e, sheet(any, numbered(1, 200)...))
	wantError(t, "Merge with 201 lines", oneSheet(sheets.Merge(a, sheet(any, numbered(101, 101)...))), api.ErrLimit)
	wantError(t, "Merge with 350 lines", oneSheet(sheets.Merge(a, sheet(any, numbered(1001, 200)...))), api.ErrLimit)
	full := sheet(any, numbered(1, api.MaxLines)...)
	s, e = sheets.Merge(full, full)
	wantSheet(t, "Merge of as many lines as may be", s, e, full)
	again := sheet(any, slices.Repeat(numbered(5, 1), 2)...)
	wantError(t, "Merge with a name again", oneSheet(sheets.Merge(full, again)), api.ErrLimit)

	wantError(t, "Merge of totals, with too many lines", oneSheet(sheets.Merge(a, sheet(span(10, 11), numbered(1001, 200)...))), api.ErrNone)
	late := append(numbered(1001, 199), line(150, 10, 11))
	wantError(t, "Merge of counts, with too many lines", oneSheet(sheets.Merge(a, sheet(any, late...))), api.ErrNone)
}

// P4.1 (R17): ErrArg, ahead of ErrNone and ErrLimit.
func TestMergeOfOtherCatches(t *testing.T) {
	changes := map[string]func(s *api.Sheet){
		"Observer": func(s *api.Sheet) { s.Observer = 8 },
		"Year":     func(s *api.Sheet) { s.Year = 4 },
		"X":        func(s *api.Sheet) { s.Square.X = 6 },
		"Y":        func(s *api.Sheet) { s.Square.Y = 5 },
		"Night":    func(s *api.Sheet) { s.Night = 101 },
		"Lamp":     func(s *api.Sheet) { s.Lamp = 3 },
	}
	for what, change := range changes {
		other := changed(change)
		wantError(t, "Merge with another "+what, oneSheet(sheets.Merge(sample(), other)), api.ErrArg)
		wantError(t, "Merge of another "+what, oneSheet(sheets.Merge(other, sample())), api.ErrArg)
		other.Total = span(0, 0)
		wantError(t, "Merge with another total and "+what, oneSheet(sheets.Merge(sample(), other)), api.ErrArg)
		other.Lines = numbered(1001, 200)
		wantError(t, "Merge with other lines and "+what, oneSheet(sheets.Merge(sample(), other)), api.ErrArg)
	}
}

// merged returns the sheet that Merge must return of two sheets of one catch, if something is in both: by looking for each line's partner.
func merged(a, b api.Sheet) (s api.Sheet, can bool) {
	s = copyOf(a)
	s.Total, can = inBoth(a.Total, b.Total)
	for i, l := range b.Lines {
		k := partner(a.Lines, l.Name, ahead(b.Lines, i))
		if k < 0 {
			s.Lines = append(s.Lines, l)
			continue
		}
		count, some := inBoth(s.Lines[k].Count, l.Count)
		s.Lines[k].Count = count
		can = can && some
		old := s.Lines[k].Seen
		switch {
		case len(old) == 0:
			s.Lines[k].Seen = l.Seen
		case len(l.Seen) == 0:
		case len(l.Seen) != len(old):
			can = false
		default:
			for c := range old {
				old[c] &= l.Seen[c]
				can = can && old[c] > 0
			}
		}
	}
	return s, can
}

func inBoth(a, b api.Span) (x api.Span, some bool) {
	x = span(max(a.Lo, b.Lo), min(a.Hi, b.Hi))
	return x, x.Lo <= x.Hi
}

// ahead returns how many lines of the name of a line are ahead of it.
func ahead(lines []api.Line, i int) int {
	n := 0
	for _, l := range lines[:i] {
		if l.Name == lines[i].Name {
			n++
		}
	}
	return n
}

// partner returns the line of a name that has a number of others of this name ahead, or -1.
func partner(lines []api.Line, name, others int) int {
	for i, l := range lines {
		if l.Name == name && ahead(lines, i) == others {
			return i
		}
	}
	return -1
}

// looseSheet returns a sheet of the sample's catch that may well be true together with others: few names, wide counts, few sets.
func looseSheet(r *rand.Rand) api.Sheet {
	s := sheet(span(r.IntN(7), 5+r.IntN(9)))
	s.Total.Hi = max(s.Total.Lo, s.Total.Hi)
	for range r.IntN(5) {
		l := line(1+r.IntN(3), r.IntN(3), 2+r.IntN(4))
		for range 2 * r.IntN(2) {
			l.Seen = append(l.Seen, 1+r.IntN(7))
		}
		if r.IntN(30) == 0 {
			l.Seen = append(l.Seen, 7)
		}
		s.Lines = append(s.Lines, l)
	}
	return s
}

// eachPair calls a test with many pairs of sheets of one catch, until it fails.
func eachPair(t *testing.T, do func(r *rand.Rand, a, b api.Sheet)) {
	t.Helper()
	r := random()
	for range 2000 {
		a, b := looseSheet(r), looseSheet(r)
		do(r, a, b)
		if t.Failed() {
			t.Fatalf("the sheets were %v and %v", a, b)
		}
	}
}

// P4.1 (R17), P4.6: by looking for partners; the other way round there are the same lines, in some order.
func TestMergeByPartners(t *testing.T) {
	good := 0
	eachPair(t, func(_ *rand.Rand, a, b api.Sheet) {
		want, can := merged(a, b)
		s, e := sheets.Merge(a, b)
		back, backError := sheets.Merge(b, a)
		if !can {
			wantError(t, "Merge", oneSheet(s, e), api.ErrNone)
			wantError(t, "Merge the other way round", oneSheet(back, backError), api.ErrNone)
			return
		}
		good++
		wantSheet(t, "Merge", s, e, want)
		slices.SortFunc(s.Lines, before)
		slices.SortFunc(back.Lines, before)
		wantSheet(t, "Merge the other way round", back, backError, s)
	})
	if good < 300 || good > 1900 {
		t.Errorf("%d pairs could be merged", good)
	}
}

// P4.6: Merge of a sheet with itself is the sheet.
func TestMergeWithItself(t *testing.T) {
	r := random()
	for i := range 300 {
		s := someSheet(r)
		if i%2 == 0 {
			s = looseSheet(r)
		}
		got, e := sheets.Merge(s, copyOf(s))
		wantSheet(t, "Merge", got, e, s)
	}
	great := greatestSheet()
	got, e := sheets.Merge(great, great)
	wantSheet(t, "Merge", got, e, great)
}

// P4.6: what may really have been by Merge of two sheets with the same names, line by line, may have been by both of them, and the other way round.
func TestMergeByRealities(t *testing.T) {
	some := 0
	eachPair(t, func(r *rand.Rand, a, b api.Sheet) {
		b.Lines = nil
		for i, l := range a.Lines {
			a.Lines[i].Seen = nil
			b.Lines = append(b.Lines, line(l.Name, r.IntN(3), 2+r.IntN(4)))
		}
		var want [][]int
		byB := allRealities(b)
		for l := range realities(a) {
			if _, both := slices.BinarySearchFunc(byB, l, slices.Compare); both {
				want = append(want, l)
			}
		}
		s, e := sheets.Merge(a, b)
		if e == api.ErrNone && len(want) == 0 {
			return
		}
		slices.SortFunc(want, slices.Compare)
		if e != api.OK || !sameLists(allRealities(s), want) {
			t.Errorf("Merge: %v, error %d, does not allow what both allow", s, e)
		}
		if len(want) > 0 {
			some++
		}
	})
	if some < 300 {
		t.Errorf("only %d pairs could be true together", some)
	}
}

// P4.1 (R17): what Merge returns is new memory (R7), wherever its lines and what was seen come from.
func TestMemoryOfMerge(t *testing.T) {
	total := span(10, 20)
	one := sheet(total, line(1, 0, 0, 1, 2), line(2, 0, 0, 3, 4), line(3, 0, 0), line(4, 0, 0, 7, 7))
	other := sheet(total, line(5, 0, 0, 5, 6), line(2, 0, 0), line(3, 0, 0, 1, 1), line(4, 0, 0, 5, 6))
	want := sheet(total, line(1, 0, 0, 1, 2), line(2, 0, 0, 3, 4), line(3, 0, 0, 1, 1), line(4, 0, 0, 5, 6), line(5, 0, 0, 5, 6))
	a, b := copyOf(one), copyOf(other)
	s, e := sheets.Merge(a, b)
	wantSheet(t, "Merge", s, e, want)
	spoil(s)
	if !sameSheet(a, one) || !sameSheet(b, other) {
		t.Fatalf("Merge shares memory with its arguments: %v, %v", a, b)
	}
	s, e = sheets.Merge(a, b)
	spoil(a)
	spoil(b)
	wantSheet(t, "Merge", s, e, want)
}
