package register_test

import (
	"fmt"
	"math/rand/v2"
	"slices"
	"testing"

	"noctuary/api"
	"noctuary/names"
	"noctuary/register"
)

const huge = int(^uint(0) >> 1)

// base is the base of the chapter's examples, with a row, rules, another lamp, a county and licences besides.
func base() api.Base {
	return api.Base{
		Book: api.NameBook{First: []int{1, 2, 3}, Changes: []api.Change{
			{Year: 5, From: []int{2}, To: []int{4, 5}},
			{Year: 8, From: []int{3, 4}, To: []int{3}},
		}},
		Matrix:   api.Matrix{States: []int{2, 3}, Rows: []api.Row{{Name: 3, May: []int{1, 3}}}},
		Rules:    []api.Rule{{Name: 1, Region: []api.Square{{Level: 10}}, Season: api.Season{From: 101, To: 1231}, Most: 5}, {Name: 2, Season: api.Season{From: 1201, To: 131}}},
		Lamps:    []api.Lamp{{ID: 2, Power: 100}, {ID: 9, Power: 15}},
		County:   []api.Square{{X: 9, Y: 9}, {Level: 1, X: 2, Y: 1}},
		Licences: []api.Licence{{Name: 1, Level: 1, Least: 1}, {Name: 3, Level: 2, Least: 4}},
		Houses:   2,
	}
}

// changedBase is the base after a change.
func changedBase(change func(b *api.Base)) api.Base {
	b := base()
	change(&b)
	return b
}

func span(lo, hi int) api.Span { return api.Span{Lo: lo, Hi: hi} }

func name(house, num int) api.Name { return api.Name{House: house, Num: num} }

func line(name, lo, hi int, seen ...int) api.Line {
	return api.Line{Name: name, Count: span(lo, hi), Seen: seen}
}

// sheetOf is the sheet of layer 4's examples with other lines.
func sheetOf(lines ...api.Line) api.Sheet {
	return api.Sheet{Observer: 7, Year: 3, Square: api.Square{X: 5, Y: 6}, Night: 100, Lamp: 2, Total: span(10, 20), Lines: lines}
}

// sampleSheet is the sheet of the chapter's examples.
func sampleSheet() api.Sheet {
	return sheetOf(line(1, 3, 9), line(2, 5, 5, 3, 1), line(9, 1, 1))
}

// otherSheet is a sheet of another night.
func otherSheet(night int, lines ...api.Line) api.Sheet {
	s := sheetOf(lines...)
	s.Night = night
	return s
}

// first is the name of the sheet in most sets.
var first = name(1, 1)

// The following functions return notes of house 1 with the Num as Clock; those about lines are about the sheet first.

func caught(num, day int, s api.Sheet) api.Note {
	return api.Note{House: 1, Num: num, Clock: num, Day: day, Kind: api.NoteSheet, Sheet: s}
}

func judged(num, day, kind, line int) api.Note {
	return api.Note{House: 1, Num: num, Clock: num, Day: day, Kind: kind, Ref: first, Line: line}
}

func named(num, day, line int, l ...int) api.Note {
	n := judged(num, day, api.NoteName, line)
	n.Names = l
	return n
}

func vouched(num, day, line int, seen ...int) api.Note {
	n := judged(num, day, api.NoteVoucher, line)
	n.Seen = seen
	return n
}

func listed(num, day, year int, from, to []int) api.Note {
	return api.Note{House: 1, Num: num, Clock: num, Day: day, Kind: api.NoteChange, Change: api.Change{Year: year, From: from, To: to}}
}

func worked(num, day int, s api.Series) api.Note {
	return api.Note{House: 1, Num: num, Clock: num, Day: day, Kind: api.NoteSeries, Series: s}
}

func undone(num, day int, ref api.Name) api.Note {
	return api.Note{House: 1, Num: num, Clock: num, Day: day, Kind: api.NoteWithdraw, Ref: ref}
}

// sample is the set of the chapter's examples, with more notes.
func sample(more ...api.Note) []api.Note {
	l := []api.Note{caught(1, 5, sampleSheet()), judged(2, 6, api.NoteQuery, 1), named(3, 6, 1, 1, 3)}
	return append(l, more...)
}

func sampleSeries() api.Series {
	return api.Series{Observer: 7, Said: 2, Year: 3, From: 90, To: 110, Name: 3, Count: span(2, 8)}
}

// oneOfEach has a well-formed note of each kind.
func oneOfEach() []api.Note {
	return []api.Note{
		caught(1, 5, sampleSheet()),
		judged(2, 5, api.NoteAccept, 0),
		judged(3, 5, api.NoteQuery, 1),
		judged(4, 5, api.NoteReject, 1),
		named(5, 5, 1, 1, 3),
		vouched(6, 5, 1, 1, 7),
		listed(7, 5, 9, []int{1}, []int{6, 7}),
		worked(8, 5, sampleSeries()),
		undone(9, 5, name(1, 4)),
	}
}

// manyNotes returns n withdrawals of a house.
func manyNotes(house, n int) []api.Note {
	var l []api.Note
	for num := range n {
		x := undone(num+1, 0, first)
		x.House = house
		l = append(l, x)
	}
	return l
}

// longList returns n names in order.
func longList(n int) []int {
	var l []int
	for i := range n {
		l = append(l, 100+i)
	}
	return l
}

// text tells all of a value; a nil slice and an empty one are told in the same way.
func text(x any) string { return fmt.Sprint(x) }

func same[T any](a, b T) bool { return text(a) == text(b) }

// wantSame checks the result of a call that must not fail.
func wantSame[T any](t *testing.T, what string, got T, e api.Errno, want T) {
	t.Helper()
	if e != api.OK || !same(got, want) {
		t.Errorf("%s: %v, error %d; want %v", what, got, e, want)
	}
}

// wantError checks that a call returns an error, and nothing else.
func wantError[T any](t *testing.T, what string, got T, e, want api.Errno) {
	t.Helper()
	var none T
	if e != want || !same(got, none) {
		t.Errorf("%s: %v, error %d; want error %d alone", what, got, e, want)
	}
}

func mustFold(t *testing.T, l []api.Note) api.Register {
	t.Helper()
	r, e := register.Fold(base(), l)
	if e != api.OK {
		t.Fatalf("Fold of %v: error %d", l, e)
	}
	return r
}

// result is what a call returned: its error, and whether all else was zero.
type result struct {
	e     api.Errno
	empty bool
}

func resultOf[T any](got T, e api.Errno) result {
	var none T
	return result{e, same(got, none)}
}

// withSets returns all functions with sets of notes but CheckSet; those with two of them once with the list as the first one and once as the second one.
func withSets() map[string]func(b api.Base, l []api.Note) result {
	return map[string]func(b api.Base, l []api.Note) result{
		"Merge":        func(b api.Base, l []api.Note) result { return resultOf(register.Merge(b, l, sample())) },
		"Merge behind": func(b api.Base, l []api.Note) result { return resultOf(register.Merge(b, sample(), l)) },
		"Fork":         func(b api.Base, l []api.Note) result { return resultOf(register.Fork(b, l, sample())) },
		"Fork behind":  func(b api.Base, l []api.Note) result { return resultOf(register.Fork(b, sample(), l)) },
		"Counts":       func(b api.Base, l []api.Note) result { return resultOf(register.Counts(b, l)) },
		"Fold":         func(b api.Base, l []api.Note) result { return resultOf(register.Fold(b, l)) },
		"AsOf":         func(b api.Base, l []api.Note) result { return resultOf(register.AsOf(b, l, -1, -1)) },
		"BookOf":       func(b api.Base, l []api.Note) result { return resultOf(register.BookOf(b, l)) },
		"Chain":        func(b api.Base, l []api.Note) result { return resultOf(register.Chain(b, l, first, 999)) },
	}
}

func random() *rand.Rand { return rand.New(rand.NewPCG(6, 11)) }

// pick returns any element of a list.
func pick[T any](r *rand.Rand, l ...T) T { return l[r.IntN(len(l))] }

// someNames returns one to three of the names 1 to 6, in order.
func someNames(r *rand.Rand) []int {
	l := r.Perm(6)[:1+r.IntN(3)]
	slices.Sort(l)
	for i := range l {
		l[i]++
	}
	return l
}

func someSheet(r *rand.Rand) api.Sheet {
	s := sheetOf()
	s.Observer, s.Square.X, s.Night, s.Lamp = pick(r, 7, 7, 8), pick(r, 5, 5, 6), pick(r, 100, 101), pick(r, 2, 9)
	s.Year = pick(r, 0, 4, 5, 7, 8, 9, 10)
	for range r.IntN(5) {
		l := line(1+r.IntN(6), r.IntN(3), 3+r.IntN(3))
		if r.IntN(3) == 0 {
			l.Seen = []int{1 + r.IntN(3), 1 + r.IntN(7)}
		}
		s.Lines = append(s.Lines, l)
	}
	return s
}

// someNote returns a well-formed note with any content.
func someNote(r *rand.Rand, house, num int) api.Note {
	n := api.Note{House: house, Num: num, Clock: 1 + r.IntN(3), Day: r.IntN(4)}
	n.Kind = pick(r, 1, 2, 3, 4, 5, 5, 6, 6, 7, 8, 9)
	if num <= 3 && r.IntN(3) > 0 {
		n.Kind = api.NoteSheet
	}
	ref, at := name(1+r.IntN(2), pick(r, 1, 1, 2, 2, 3, 1+r.IntN(9))), r.IntN(3)
	switch n.Kind {
	case api.NoteSheet:
		n.Sheet = someSheet(r)
	case api.NoteChange:
		n.Change = api.Change{Year: 6 + r.IntN(5), From: someNames(r), To: someNames(r)}
	case api.NoteSeries:
		n.Series = api.Series{Observer: 7, Said: 1 + r.IntN(6), Year: pick(r, 0, 5, 9), From: 90, To: 110, Name: 1 + r.IntN(6), Count: span(1, 2)}
	case api.NoteWithdraw:
		n.Ref = ref
	case api.NoteName:
		n.Ref, n.Line, n.Names = ref, at, someNames(r)
	case api.NoteVoucher:
		n.Ref, n.Line, n.Seen = ref, at, []int{1 + r.IntN(3), 1 + r.IntN(7)}
	default:
		n.Ref, n.Line = ref, at
	}
	return n
}

// someSet returns a set of two houses' notes.
func someSet(r *rand.Rand) []api.Note {
	var l []api.Note
	for house := 1; house <= 2; house++ {
		for num := range r.IntN(11) {
			l = append(l, someNote(r, house, num+1))
		}
	}
	return l
}

// someOf returns some notes of a set.
func someOf(r *rand.Rand, l []api.Note) []api.Note {
	return without(l, func(api.Note) bool { return r.IntN(3) == 0 })
}

// without returns the notes of a set for which something does not hold.
func without(l []api.Note, holds func(api.Note) bool) []api.Note {
	var out []api.Note
	for _, n := range l {
		if !holds(n) {
			out = append(out, n)
		}
	}
	return out
}

func nameOf(n api.Note) api.Name { return name(n.House, n.Num) }

func namesOf(l []api.Note) []api.Name {
	var out []api.Name
	for _, n := range l {
		out = append(out, nameOf(n))
	}
	return out
}

func isBefore(a, b api.Note) bool {
	if a.Day != b.Day {
		return a.Day < b.Day
	}
	if a.Clock != b.Clock {
		return a.Clock < b.Clock
	}
	if a.House != b.House {
		return a.House < b.House
	}
	return a.Num < b.Num
}

// isGone reports whether a set has a withdrawal of a note.
func isGone(l []api.Note, x api.Name) bool {
	return slices.ContainsFunc(l, func(n api.Note) bool { return n.Kind == api.NoteWithdraw && n.Ref == x })
}

// counting returns the notes of a set that count, in order, found by looking for the first one again and again.
func counting(l []api.Note) []api.Note {
	left := without(l, func(n api.Note) bool { return n.Kind == api.NoteWithdraw || isGone(l, nameOf(n)) })
	var out []api.Note
	for len(left) > 0 {
		least := 0
		for i := range left {
			if isBefore(left[i], left[least]) {
				least = i
			}
		}
		out = append(out, left[least])
		left = slices.Delete(left, least, least+1)
	}
	return out
}

// byTheTerms returns the register of a set, told one round after the other as in the chapter's terms.
func byTheTerms(b api.Base, l []api.Note) api.Register {
	out := api.Register{Book: b.Book}
	conflict := map[api.Name]bool{}
	for _, n := range counting(l) {
		if n.Kind == api.NoteChange {
			book, e := names.Apply(out.Book, n.Change)
			if e == api.OK {
				out.Book = book
			} else {
				conflict[nameOf(n)] = true
			}
		}
	}
	for _, n := range counting(l) {
		if n.Kind == api.NoteSheet && !foldSheet(&out, n) {
			conflict[nameOf(n)] = true
		}
	}
	for _, n := range counting(l) {
		if n.Kind != api.NoteSheet && n.Kind != api.NoteChange && !foldOther(&out, n) {
			conflict[nameOf(n)] = true
		}
	}
	for _, n := range l {
		found := slices.ContainsFunc(l, func(x api.Note) bool { return x.Kind != api.NoteWithdraw && nameOf(x) == n.Ref })
		if conflict[nameOf(n)] || n.Kind == api.NoteWithdraw && !found {
			out.Conflicts = append(out.Conflicts, nameOf(n))
		}
	}
	return out
}

func foldSheet(out *api.Register, n api.Note) bool {
	s := n.Sheet
	for _, c := range out.Catches {
		if c.Observer == s.Observer && c.Square == s.Square && c.Night == s.Night {
			return false
		}
	}
	out.Catches = append(out.Catches, api.Catch{Sheet: nameOf(n), Observer: s.Observer, Square: s.Square, Night: s.Night, Lamp: s.Lamp, Total: s.Total})
	right := true
	for i, l := range s.Lines {
		if !isListed(out.Book, s.Year, l.Name) {
			right = false
			continue
		}
		r := api.Record{Sheet: nameOf(n), Line: i, Said: l.Name, Year: s.Year, Count: l.Count}
		if len(l.Seen) > 0 {
			r.Seen = append(r.Seen, l.Seen)
		}
		out.Records = append(out.Records, r)
	}
	return right
}

func foldOther(out *api.Register, n api.Note) bool {
	if n.Kind == api.NoteSeries {
		if !isListed(out.Book, n.Series.Year, n.Series.Said) || !isListed(out.Book, n.Series.Year, n.Series.Name) {
			return false
		}
		out.Series = append(out.Series, n.Series)
		return true
	}
	for i := range out.Records {
		r := &out.Records[i]
		if r.Sheet != n.Ref || r.Line != n.Line {
			continue
		}
		switch n.Kind {
		case api.NoteName:
			if slices.ContainsFunc(n.Names, func(x int) bool { return !isListed(out.Book, r.Year, x) }) {
				return false
			}
			r.Names = n.Names
		case api.NoteVoucher:
			r.Seen = append(r.Seen, n.Seen)
		default:
			r.State = n.Kind - api.NoteAccept + api.StateAccepted
		}
		return true
	}
	return false
}

// isListed reports whether the version of a year has a name.
func isListed(b api.NameBook, year, x int) bool {
	v, _ := names.VersionOf(b, year)
	has, _ := names.Has(b, v, x)
	return has
}
