package sheets_test

import (
	"iter"
	"math/rand/v2"
	"slices"
	"testing"

	"noctuary/api"
	"noctuary/sheets"
)

const huge = int(^uint(0) >> 1)

// sample is the sheet s of the chapter's examples.
func sample() api.Sheet {
	return api.Sheet{
		Observer: 7, Year: 3, Square: api.Square{X: 5, Y: 6}, Night: 100, Lamp: 2, Total: span(10, 20),
		Lines: []api.Line{line(4, 3, 9), line(8, 5, 5, 3, 1)},
	}
}

// sheet is the sample with another total and other lines.
func sheet(total api.Span, lines ...api.Line) api.Sheet {
	s := sample()
	s.Total, s.Lines = total, lines
	return s
}

// changed is the sample after a change.
func changed(change func(s *api.Sheet)) api.Sheet {
	s := sample()
	change(&s)
	return s
}

// greatestSheet is a sheet of which there is no greater one.
func greatestSheet() api.Sheet {
	most := span(api.MaxCount, api.MaxCount)
	l := line(api.MaxID, api.MaxCount, api.MaxCount, times(api.MaxChars, 1<<16-1)...)
	return api.Sheet{
		Observer: api.MaxID, Year: api.MaxYear, Square: api.Square{X: 1023, Y: 1023}, Night: api.MaxDay, Lamp: api.MaxID, Total: most,
		Lines: slices.Repeat([]api.Line{l}, api.MaxLines),
	}
}

// leastSheet has the least numbers that there may be, and no lines.
func leastSheet() api.Sheet { return api.Sheet{Observer: 1, Lamp: 1} }

func span(lo, hi int) api.Span { return api.Span{Lo: lo, Hi: hi} }

func line(name, lo, hi int, seen ...int) api.Line {
	return api.Line{Name: name, Count: span(lo, hi), Seen: seen}
}

// times returns a list of n equal numbers.
func times(n, x int) []int { return slices.Repeat([]int{x}, n) }

// copyOf returns a sheet in memory of its own.
func copyOf(s api.Sheet) api.Sheet {
	out := s
	out.Lines = nil
	for _, l := range s.Lines {
		out.Lines = append(out.Lines, line(l.Name, l.Count.Lo, l.Count.Hi, slices.Clone(l.Seen)...))
	}
	return out
}

// sameHead compares all of two sheets but their totals and lines.
func sameHead(a, b api.Sheet) bool {
	return a.Observer == b.Observer && a.Year == b.Year && a.Square == b.Square && a.Night == b.Night && a.Lamp == b.Lamp
}

func sameSheet(a, b api.Sheet) bool {
	return sameHead(a, b) && a.Total == b.Total && slices.EqualFunc(a.Lines, b.Lines, sameLine)
}

func sameLine(a, b api.Line) bool {
	return a.Name == b.Name && a.Count == b.Count && slices.Equal(a.Seen, b.Seen)
}

// before orders lines by all that they have.
func before(a, b api.Line) int {
	l := func(x api.Line) []int { return append([]int{x.Name, x.Count.Lo, x.Count.Hi}, x.Seen...) }
	return slices.Compare(l(a), l(b))
}

// badSheet is a sheet that is not valid, with the number that Check tells of it.
type badSheet struct {
	what   string
	s      api.Sheet
	number int
}

// badSheets returns sheets that are not valid, but not those with too many lines.
func badSheets() []badSheet {
	out := []badSheet{
		{"nothing", api.Sheet{}, 1},
		{"a square of level 1", changed(func(s *api.Sheet) { s.Square.Level = 1 }), 2},
		{"a square of level -1", changed(func(s *api.Sheet) { s.Square.Level = -1 }), 2},
		{"the whole map", changed(func(s *api.Sheet) { s.Square = api.Square{Level: 10} }), 2},
		{"a count from above to below", changed(func(s *api.Sheet) { s.Total = span(11, 10) }), 4},
		{"a line's count from above to below", changed(func(s *api.Sheet) { s.Lines[0].Count = span(1, 0) }), 5},
		{"too much seen", changed(func(s *api.Sheet) { s.Lines[1].Seen = times(api.MaxChars+1, 1) }), 6},
		{"all at once", api.Sheet{Square: api.Square{Level: 1}, Night: -1, Total: span(1, 0), Lines: []api.Line{line(0, 0, 0)}}, 1},
		{"all but the first", changed(func(s *api.Sheet) { s.Square.X, s.Night, s.Total.Lo, s.Lines[0].Name = -1, -1, -1, 0 }), 2},
		{"all but two", changed(func(s *api.Sheet) { s.Night, s.Total.Lo, s.Lines[0].Name = -1, -1, 0 }), 3},
		{"all but three", changed(func(s *api.Sheet) { s.Total.Lo, s.Lines[0].Name = -1, 0 }), 4},
		{"two lines", changed(func(s *api.Sheet) { s.Lines[0].Name, s.Lines[1].Name = 0, 0 }), 5},
		{"the last of many lines", sheet(span(0, 0), append(slices.Repeat([]api.Line{line(1, 0, 0)}, api.MaxLines-1), line(0, 0, 0))...), 204},
	}
	for _, x := range fields() {
		for _, n := range []int{x.least - 1, x.most + 1, -huge - 1, huge} {
			out = append(out, badSheet{x.what, changed(func(s *api.Sheet) { *x.at(s) = n }), x.number})
		}
	}
	return out
}

// field is a number of the sample, with its bounds, and what Check tells if it is beyond them.
type field struct {
	what        string
	at          func(s *api.Sheet) *int
	least, most int
	number      int
}

func fields() []field {
	return []field{
		{"Observer", func(s *api.Sheet) *int { return &s.Observer }, 1, api.MaxID, 1},
		{"Year", func(s *api.Sheet) *int { return &s.Year }, 0, api.MaxYear, 1},
		{"X", func(s *api.Sheet) *int { return &s.Square.X }, 0, 1023, 2},
		{"Y", func(s *api.Sheet) *int { return &s.Square.Y }, 0, 1023, 2},
		{"Night", func(s *api.Sheet) *int { return &s.Night }, 0, api.MaxDay, 3},
		{"Lamp", func(s *api.Sheet) *int { return &s.Lamp }, 1, api.MaxID, 1},
		{"Total.Lo", func(s *api.Sheet) *int { return &s.Total.Lo }, 0, 20, 4},
		{"Total.Hi", func(s *api.Sheet) *int { return &s.Total.Hi }, 10, api.MaxCount, 4},
		{"Name", func(s *api.Sheet) *int { return &s.Lines[0].Name }, 1, api.MaxID, 5},
		{"Count.Lo", func(s *api.Sheet) *int { return &s.Lines[0].Count.Lo }, 0, 9, 5},
		{"Count.Hi", func(s *api.Sheet) *int { return &s.Lines[0].Count.Hi }, 3, api.MaxCount, 5},
		{"a second Name", func(s *api.Sheet) *int { return &s.Lines[1].Name }, 1, api.MaxID, 6},
		{"a second Count.Hi", func(s *api.Sheet) *int { return &s.Lines[1].Count.Hi }, 5, api.MaxCount, 6},
		{"Seen", func(s *api.Sheet) *int { return &s.Lines[1].Seen[0] }, 1, 1<<16 - 1, 6},
		{"the last Seen", func(s *api.Sheet) *int { return &s.Lines[1].Seen[1] }, 1, 1<<16 - 1, 6},
	}
}

// tooManyLines is a sheet of which Check tells ErrLimit.
func tooManyLines() api.Sheet {
	s := greatestSheet()
	s.Lines = append(s.Lines, line(1, 0, 0))
	return s
}

// realities yields what really was by a sheet: the number of each line and, behind them, the number of all moths.
func realities(s api.Sheet) iter.Seq[[]int] {
	return func(yield func([]int) bool) {
		l := make([]int, len(s.Lines)+1)
		var choose func(i, sum int) bool
		choose = func(i, sum int) bool {
			if i < len(s.Lines) {
				for n := s.Lines[i].Count.Lo; n <= s.Lines[i].Count.Hi; n++ {
					l[i] = n
					if !choose(i+1, sum+n) {
						return false
					}
				}
				return true
			}
			for n := max(sum, s.Total.Lo); n <= s.Total.Hi; n++ {
				l[i] = n
				if !yield(slices.Clone(l)) {
					return false
				}
			}
			return true
		}
		choose(0, 0)
	}
}

// allRealities returns what really was, in order.
func allRealities(s api.Sheet) [][]int { return slices.SortedFunc(realities(s), slices.Compare) }

func sameLists(a, b [][]int) bool { return slices.EqualFunc(a, b, slices.Equal) }

func random() *rand.Rand { return rand.New(rand.NewPCG(5, 8)) }

// someSpan returns a span of numbers up to one.
func someSpan(r *rand.Rand, most int) api.Span {
	a, b := r.IntN(most+1), r.IntN(most+1)
	return span(min(a, b), max(a, b))
}

// smallSheet returns a sheet with a few lines, by which few things may really have been, or nothing at all.
func smallSheet(r *rand.Rand) api.Sheet {
	s := sheet(someSpan(r, 12))
	for range r.IntN(4) {
		l := line(1+r.IntN(3), 0, 0)
		l.Count = someSpan(r, 5)
		s.Lines = append(s.Lines, l)
	}
	return s
}

// someSheet returns any valid sheet.
func someSheet(r *rand.Rand) api.Sheet {
	s := api.Sheet{
		Observer: 1 + r.IntN(api.MaxID), Year: r.IntN(api.MaxYear + 1), Square: api.Square{X: r.IntN(1024), Y: r.IntN(1024)},
		Night: r.IntN(api.MaxDay + 1), Lamp: 1 + r.IntN(api.MaxID), Total: someSpan(r, api.MaxCount),
	}
	for range r.IntN(6) {
		l := line(1+r.IntN(api.MaxID), 0, 0)
		l.Count = someSpan(r, api.MaxCount)
		for range r.IntN(4) {
			l.Seen = append(l.Seen, 1+r.IntN(1<<16-1))
		}
		s.Lines = append(s.Lines, l)
	}
	return s
}

// result is what a call returned: its error, and whether there was nothing else.
type result struct {
	e     api.Errno
	empty bool
}

func nothing(e api.Errno) result               { return result{e, true} }
func list(l []int, e api.Errno) result         { return result{e, len(l) == 0} }
func number(n int, e api.Errno) result         { return result{e, n == 0} }
func truth(is bool, e api.Errno) result        { return result{e, !is} }
func text(s string, e api.Errno) result        { return result{e, s == ""} }
func oneSpan(x api.Span, e api.Errno) result   { return result{e, x == api.Span{}} }
func oneSheet(s api.Sheet, e api.Errno) result { return result{e, sameSheet(s, api.Sheet{})} }
func doubts(l []api.Doubt, e api.Errno) result { return result{e, len(l) == 0} }

// functions returns all functions with a sheet but Check; all other arguments are in order, but for the name of "Lines of 0".
func functions() map[string]func(s api.Sheet) result {
	return map[string]func(s api.Sheet) result{
		"Print":       func(s api.Sheet) result { return text(sheets.Print(s)) },
		"Sum":         func(s api.Sheet) result { return oneSpan(sheets.Sum(s)) },
		"Rest":        func(s api.Sheet) result { return oneSpan(sheets.Rest(s)) },
		"Agrees":      func(s api.Sheet) result { return truth(sheets.Agrees(s)) },
		"Tight":       func(s api.Sheet) result { return oneSheet(sheets.Tight(s)) },
		"Twin":        func(s api.Sheet) result { return truth(sheets.Twin(s, sample())) },
		"Twin behind": func(s api.Sheet) result { return truth(sheets.Twin(sample(), s)) },
		"Lines":       func(s api.Sheet) result { return list(sheets.Lines(s, 8)) },
		"Lines of 0":  func(s api.Sheet) result { return list(sheets.Lines(s, 0)) },
		"Unknown":     func(s api.Sheet) result { return list(sheets.Unknown(book(), s)) },
		"Vouchers":    func(s api.Sheet) result { return list(sheets.Vouchers(matrix(), s)) },
		"Doubts":      func(s api.Sheet) result { return doubts(sheets.Doubts(rules(), s)) },
		"Merge":       func(s api.Sheet) result { return oneSheet(sheets.Merge(s, sample())) },
		"Merge other": func(s api.Sheet) result { return oneSheet(sheets.Merge(sample(), s)) },
		"Effort":      func(s api.Sheet) result { return number(sheets.Effort(lamps(), []api.Sheet{sample(), s, sample()})) },
	}
}

// book is the book of layer 2's examples.
func book() api.NameBook {
	return api.NameBook{First: []int{1, 2, 3}, Changes: []api.Change{{Year: 5, From: []int{2}, To: []int{4, 5}}, {Year: 8, From: []int{3, 4}, To: []int{3}}}}
}

// matrix is the matrix of layer 3's examples, but for the names of its rows.
func matrix() api.Matrix {
	return api.Matrix{States: []int{2, 3}, Rows: []api.Row{{Name: 4, May: []int{1, 3}}, {Name: 6, May: []int{2, 1}}, {Name: 8, May: []int{1, 6}}}}
}

func rules() []api.Rule {
	return []api.Rule{rule(4, everywhere(), season(101, 1231), 2), rule(8, everywhere(), season(101, 1231), 5)}
}

func lamps() []api.Lamp { return []api.Lamp{{ID: 2, Power: 125}, {ID: 9, Power: 15}} }

func rule(name int, region []api.Square, s api.Season, most int) api.Rule {
	return api.Rule{Name: name, Region: region, Season: s, Most: most}
}

func everywhere() []api.Square { return []api.Square{{Level: api.MaxLevel}} }

func season(from, to int) api.Season { return api.Season{From: from, To: to} }

// wantError checks that a call returns an error, and nothing else.
func wantError(t *testing.T, what string, got result, want api.Errno) {
	t.Helper()
	if got.e != want || !got.empty {
		t.Errorf("%s: error %d, other results empty: %v; want error %d alone", what, got.e, got.empty, want)
	}
}

// wantSame checks the result of a call that must not fail.
func wantSame[T comparable](t *testing.T, what string, got T, e api.Errno, want T) {
	t.Helper()
	if e != api.OK || got != want {
		t.Errorf("%s: %v, error %d; want %v", what, got, e, want)
	}
}

func wantList[T comparable](t *testing.T, what string, got []T, e api.Errno, want ...T) {
	t.Helper()
	if e != api.OK || !slices.Equal(got, want) {
		t.Errorf("%s: %v, error %d; want %v", what, got, e, want)
	}
}

func wantSheet(t *testing.T, what string, got api.Sheet, e api.Errno, want api.Sheet) {
	t.Helper()
	if e != api.OK || !sameSheet(got, want) {
		t.Errorf("%s: %v, error %d; want %v", what, got, e, want)
	}
}

// spoil writes over a sheet's lines and all that was seen.
func spoil(s api.Sheet) {
	for i := range s.Lines {
		for k := range s.Lines[i].Seen {
			s.Lines[i].Seen[k] = -7
		}
		_ = append(s.Lines[i].Seen, -7)
		s.Lines[i] = line(-7, -7, -7)
	}
	_ = append(s.Lines, line(-7, -7, -7))
}
