package atlas_test

import (
	"slices"
	"testing"

	"noctuary/answers"
	"noctuary/api"
	"noctuary/atlas"
)

// withBase is all functions with a base.
func withBase() map[string]func(t *testing.T, what string, b api.Base, r api.Register, e api.Errno) {
	return map[string]func(t *testing.T, what string, b api.Base, r api.Register, right api.Errno){
		"Names": func(t *testing.T, what string, b api.Base, r api.Register, right api.Errno) {
			l, e := atlas.Names(b, r)
			wantError(t, what, l, e, right)
		},
		"AnswerOf": func(t *testing.T, what string, b api.Base, r api.Register, right api.Errno) {
			x, e := atlas.AnswerOf(b, r, -1)
			wantError(t, what, x, e, right)
		},
		"Maps": func(t *testing.T, what string, b api.Base, r api.Register, right api.Errno) {
			x, e := mapsOf(b, r, make([]api.DotMap, 201))
			wantError(t, what, x, e, right)
		},
		"Build": func(t *testing.T, what string, b api.Base, r api.Register, right api.Errno) {
			x, e := atlas.Build(b, r, make([]api.DotMap, 201))
			wantError(t, what, x, e, right)
		},
	}
}

// tooMany makes the net of a register too great: each of 400 records may be 21 names.
func tooMany(r *api.Register) {
	r.Book = api.NameBook{First: numbers(21)}
	r.Series = nil
	r.Catches[0].Total = span(0, 0) // not possible either
	r.Records = nil
	for i := range 2 * api.MaxLines {
		r.Records = append(r.Records, api.Record{Sheet: at(1 + i/api.MaxLines), Line: i % api.MaxLines, Said: 1, Names: numbers(21), Count: span(1, 1)})
	}
}

// P10.1 (Errors): what all functions with a base return first, in this order.
func TestErrorsOfCases(t *testing.T) {
	crowd := func(r *api.Register) { r.Records = slices.Repeat(r.Records, 81) }
	rich := func(r *api.Register) {
		r.Book = api.NameBook{First: []int{1, 2}}
		for range 11 {
			r.Book.Changes = append(r.Book.Changes, api.Change{From: []int{1, 2}, To: []int{1, 2}})
		}
	}
	book := func(r *api.Register) { r.Book.First = nil }
	long := func(r *api.Register) { r.Book.Changes = make([]api.Change, 65) }
	wrong := func(r *api.Register) { r.Records[4].Said = 3 } // no name of the year 0
	for what, call := range withBase() {
		for part, b := range wrongBases() {
			call(t, what+" of a wrong "+part, b, changedRegister(crowd), api.ErrBase)
		}
		b := sampleBase()
		call(t, what+" of too many records", b, changedRegister(func(r *api.Register) { crowd(r); book(r) }), api.ErrLimit)
		call(t, what+" of a wrong book", b, changedRegister(func(r *api.Register) { wrong(r); book(r) }), api.ErrBook)
		call(t, what+" of a long book", b, changedRegister(func(r *api.Register) { wrong(r); long(r) }), api.ErrLimit)
		call(t, what+" of a rich book", b, changedRegister(func(r *api.Register) { wrong(r); rich(r) }), api.ErrLimit)
		call(t, what+" of a wrong record", b, changedRegister(wrong), api.ErrCase)
		call(t, what+" of too many arcs", b, changedRegister(tooMany), api.ErrLimit)
		call(t, what+" of too many arcs and a wrong record", b, changedRegister(func(r *api.Register) { tooMany(r); r.Records[399].Line = 200 }), api.ErrCase)
	}
}

// P10.1 (Errors): just as many arcs as there may be, and one more.
func TestMostArcs(t *testing.T) {
	r := changedRegister(tooMany)
	r.Records = r.Records[:363]
	r.Records[5].Names = numbers(6) // 8 arcs of catches, 363 of records, 362 * 21 + 6 of candidates, 21 of names
	l, e := atlas.Names(sampleBase(), r)
	want(t, "Names of 8000 arcs", l, e, numbers(21))
	r.Records[5].Names = numbers(7)
	l, e = atlas.Names(sampleBase(), r)
	wantError(t, "Names of 8001 arcs", l, e, api.ErrLimit)
}

// P10.1 (A1): the names of the last version, also if not all records can be right.
func TestNames(t *testing.T) {
	for _, r := range []api.Register{sampleRegister(), clashRegister()} {
		l, e := atlas.Names(sampleBase(), r)
		want(t, "Names", l, e, sampleNames())
	}
	r := changedRegister(func(r *api.Register) {
		r.Book.Changes = append(r.Book.Changes, api.Change{Year: 5, From: []int{2, 4}, To: []int{4}})
	})
	l, e := atlas.Names(sampleBase(), r)
	want(t, "Names of a book with a further change", l, e, []int{3, 4, 5, 9})
	l, e = atlas.Names(sampleBase(), api.Register{Book: api.NameBook{First: []int{77}}})
	want(t, "Names of a register that has nothing of the base", l, e, []int{77})
}

// P10.1 (A2): the answers of the sample, and its errors.
func TestAnswerOf(t *testing.T) {
	for _, right := range sampleAnswers() {
		x, e := atlas.AnswerOf(sampleBase(), sampleRegister(), right.Name)
		want(t, "AnswerOf", x, e, right)
	}
	for _, name := range []int{1, 0, -1, 6, huge, -huge - 1} {
		x, e := atlas.AnswerOf(sampleBase(), sampleRegister(), name)
		wantError(t, "AnswerOf of no name", x, e, api.ErrNone)
		x, e = atlas.AnswerOf(sampleBase(), clashRegister(), name)
		wantError(t, "AnswerOf of no name, with a clash", x, e, api.ErrNone)
	}
	for _, name := range sampleNames() {
		x, e := atlas.AnswerOf(sampleBase(), clashRegister(), name)
		wantError(t, "AnswerOf with a clash", x, e, api.ErrClash)
	}
}

// P10.1 (Examples): the fourth one.
func TestExample(t *testing.T) {
	b := changedBase(func(b *api.Base) { b.Book.First, b.Matrix.Rows = []int{1, 2}, nil })
	r := api.Register{
		Book:    b.Book,
		Catches: []api.Catch{{Sheet: at(1), Observer: 1, Lamp: 3, Total: span(10, 10)}},
		Records: []api.Record{{Sheet: at(1), Said: 1, Count: span(4, 6)}},
	}
	for name, right := range map[int]api.Span{2: span(0, 0), 3: span(0, 6), 4: span(0, 6)} {
		x, e := atlas.AnswerOf(b, r, name)
		want(t, "the count", x.Count, e, right)
	}
}

// P10.1 (A2): AnswerOf is what package answers tells.
func TestAnswersOfCases(t *testing.T) {
	r := random()
	for range 300 {
		b := someBase(r)
		reg := someRegister(r, b)
		c, possible := caseOf(b, reg)
		for _, name := range lastNames(b.Book) {
			x, e := atlas.AnswerOf(b, reg, name)
			if !possible {
				wantError(t, "AnswerOf with a clash", x, e, api.ErrClash)
				continue
			}
			right := api.Answer{Name: name}
			right.Count, _ = answers.Count(c, name)
			right.First, _ = answers.First(c, name)
			right.Last, _ = answers.LastOf(c, name)
			right.Sure, _ = answers.Sure(c, name)
			right.May, _ = answers.May(c, name)
			want(t, "AnswerOf", x, e, right)
		}
	}
}
