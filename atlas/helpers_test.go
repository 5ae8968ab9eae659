package atlas_test

import (
	"fmt"
	"math/rand/v2"
	"slices"
	"testing"

	"noctuary/answers"
	"noctuary/api"
	"noctuary/atlas"
	"noctuary/names"
	"noctuary/places"
	"noctuary/register"
)

const (
	huge      = int(^uint(0) >> 1)
	unbounded = 1000000000
)

func span(lo, hi int) api.Span { return api.Span{Lo: lo, Hi: hi} }

func square(x, y int) api.Square { return api.Square{X: x, Y: y} }

func of(level, x, y int) api.Square { return api.Square{Level: level, X: x, Y: y} }

func at(num int) api.Name { return api.Name{House: 1, Num: num} }

// sampleBase has a county of 17 small squares. In the year 5 the name 1 becomes 3 and 4; of the name 9 no map is allowed, and of 2 none that is finer than the level 1.
func sampleBase() api.Base {
	return api.Base{
		Book:     api.NameBook{First: []int{1, 2, 5, 9}, Changes: []api.Change{{Year: 5, From: []int{1}, To: []int{3, 4}}}},
		Matrix:   api.Matrix{States: []int{2, 3}, Rows: []api.Row{{Name: 3, May: []int{1, 7}}, {Name: 4, May: []int{2, 7}}}},
		Rules:    []api.Rule{{Name: 2, Region: []api.Square{square(30, 30), of(2, 0, 0)}, Season: api.Season{From: 401, To: 930}, Most: 50}, {Name: 5, Season: api.Season{From: 1101, To: 229}}},
		Lamps:    []api.Lamp{{ID: 3, Power: 125}, {ID: 8, Power: 15}},
		County:   []api.Square{square(9, 9), of(2, 0, 0)},
		Licences: []api.Licence{{Name: 2, Level: 1, Least: 1}, {Name: 9, Level: 0, Least: 18}},
		Houses:   2,
	}
}

// sampleRegister has four to six of 1 and one of 1 with a voucher, which is 3 thereby; two of 2; one to three of 5 outside the county; and one of 9.
func sampleRegister() api.Register {
	return api.Register{
		Book: sampleBase().Book,
		Catches: []api.Catch{
			{Sheet: at(1), Observer: 1, Square: square(1, 0), Night: 9, Lamp: 3, Total: span(10, 10)},
			{Sheet: at(2), Observer: 1, Square: square(2, 3), Night: 12, Lamp: 3, Total: span(0, 20)},
			{Sheet: at(3), Observer: 2, Square: square(30, 30), Night: 20, Lamp: 8, Total: span(0, 5)},
			{Sheet: at(4), Observer: 1, Square: square(3, 3), Night: 7, Lamp: 3, Total: span(1, 1)},
		},
		Records: []api.Record{
			{Sheet: at(1), Said: 1, Count: span(4, 6)},
			{Sheet: at(2), Said: 2, Count: span(2, 2), State: api.StateAccepted},
			{Sheet: at(2), Line: 1, Said: 1, Count: span(1, 1), Seen: [][]int{{3, 7}, {1, 6}}},
			{Sheet: at(3), Line: 7, Said: 2, Count: span(1, 3), Names: []int{5}},
			{Sheet: at(4), Said: 9, Count: span(1, 1)},
		},
		Series:    []api.Series{{Observer: 1, Said: 2, Year: 0, From: 3, To: 30, Name: 2, Count: span(1, 5)}},
		Conflicts: []api.Name{{House: 2, Num: 7}},
	}
}

// The names of the sample, and what is told of them.
func sampleNames() []int { return []int{2, 3, 4, 5, 9} }

func sampleAnswers() []api.Answer {
	return []api.Answer{
		{Name: 2, Count: span(2, 2), First: span(12, 12), Last: span(12, 12), Sure: []api.Square{square(2, 3)}, May: []api.Square{square(2, 3)}},
		{Name: 3, Count: span(1, 7), First: span(9, 12), Last: span(12, 12), Sure: []api.Square{square(2, 3)}, May: []api.Square{square(1, 0), square(2, 3)}},
		{Name: 4, Count: span(0, 6), First: span(9, -1), Last: span(-1, 9), May: []api.Square{square(1, 0)}},
		{Name: 5, Count: span(1, 3), First: span(20, 20), Last: span(20, 20), Sure: []api.Square{square(30, 30)}, May: []api.Square{square(30, 30)}},
		{Name: 9, Count: span(1, 1), First: span(7, 7), Last: span(7, 7), Sure: []api.Square{square(3, 3)}, May: []api.Square{square(3, 3)}},
	}
}

func sampleMaps() []api.DotMap {
	return []api.DotMap{
		{Name: 2, Dots: []api.Square{of(1, 1, 1)}, Region: sampleBase().County},
		{Name: 3, Dots: []api.Square{square(2, 3)}, Region: sampleBase().County},
	}
}

// clashRegister is the sample with a first catch that is too small.
func clashRegister() api.Register {
	return changedRegister(func(r *api.Register) { r.Catches[0].Total = span(0, 3) })
}

func changedBase(change func(b *api.Base)) api.Base {
	b := sampleBase()
	change(&b)
	return b
}

func changedRegister(change func(r *api.Register)) api.Register {
	r := sampleRegister()
	change(&r)
	return r
}

// wrongBases returns bases each of which is not valid by another part.
func wrongBases() map[string]api.Base {
	return map[string]api.Base{
		"zero":     {},
		"Book":     changedBase(func(b *api.Base) { b.Book.First = []int{2, 1} }),
		"Matrix":   changedBase(func(b *api.Base) { b.Matrix.Rows[0].May[0] = 99 }),
		"Rules":    changedBase(func(b *api.Base) { b.Rules[0].Most = -1 }),
		"Lamps":    changedBase(func(b *api.Base) { b.Lamps[0].Power = 0 }),
		"County":   changedBase(func(b *api.Base) { b.County[0].X = -1 }),
		"Licences": changedBase(func(b *api.Base) { b.Licences[0].Least = 0 }),
		"Houses":   changedBase(func(b *api.Base) { b.Houses = 9 }),
	}
}

// text tells all of a value; a nil slice and an empty one are told in the same way.
func text(x any) string { return fmt.Sprint(x) }

func same[T any](a, b T) bool { return text(a) == text(b) }

func wantSame[T any](t *testing.T, what string, got, want T) {
	t.Helper()
	if !same(got, want) {
		t.Errorf("%s: %v; want %v", what, got, want)
	}
}

// want checks the result of a call that must not fail.
func want[T any](t *testing.T, what string, got T, e api.Errno, right T) {
	t.Helper()
	if e != api.OK || !same(got, right) {
		t.Errorf("%s: %v, error %d; want %v", what, got, e, right)
	}
}

// wantError checks that a call returned an error, and nothing else.
func wantError[T any](t *testing.T, what string, got T, e, right api.Errno) {
	t.Helper()
	var none T
	if e != right || !same(got, none) {
		t.Errorf("%s: %v, error %d; want error %d alone", what, got, e, right)
	}
}

// published is the two lists that Maps returns.
type published struct {
	maps []api.DotMap
	held []int
}

func mapsOf(b api.Base, r api.Register, old []api.DotMap) (published, api.Errno) {
	l, held, e := atlas.Maps(b, r, old)
	return published{l, held}, e
}

// mustBuild returns an atlas that Build must not refuse.
func mustBuild(t *testing.T, b api.Base, r api.Register, old []api.DotMap) api.Atlas {
	t.Helper()
	x, e := atlas.Build(b, r, old)
	if e != api.OK {
		t.Fatalf("Build: error %d", e)
	}
	return x
}

func sampleAtlas(t *testing.T) api.Atlas {
	t.Helper()
	return mustBuild(t, sampleBase(), sampleRegister(), nil)
}

// plain is an answer without what proves it.
func plain(x api.Answer) api.Answer {
	x.Least, x.Most, x.LowCut, x.HighCut = nil, nil, nil, nil
	return x
}

func plainOf(x api.Atlas) []api.Answer {
	var out []api.Answer
	for _, a := range x.Answers {
		out = append(out, plain(a))
	}
	return out
}

// wantFaults checks what Check finds.
func wantFaults(t *testing.T, what string, x api.Atlas, old []api.DotMap, right ...api.Fault) {
	t.Helper()
	if l := atlas.Check(x, old); !slices.Equal(l, right) {
		t.Errorf("Check of %s: %v; want %v", what, l, right)
	}
}

func random() *rand.Rand { return rand.New(rand.NewPCG(10, 20)) }

// pick returns any element of a list.
func pick[T any](r *rand.Rand, l ...T) T { return l[r.IntN(len(l))] }

// someOf returns up to three elements of a list, at least one, in order.
func someOf(r *rand.Rand, l []int) []int {
	var out []int
	for _, i := range r.Perm(len(l))[:1+r.IntN(min(3, len(l)))] {
		out = append(out, l[i])
	}
	slices.Sort(out)
	return out
}

func someSpan(r *rand.Rand, most int) api.Span {
	lo := r.IntN(most + 1)
	return span(lo, lo+r.IntN(most+1-lo))
}

func lastNames(b api.NameBook) []int {
	v, _ := names.Last(b)
	l, _ := names.Names(b, v)
	return l
}

func namesOfYear(b api.NameBook, year int) []int {
	v, _ := names.VersionOf(b, year)
	l, _ := names.Names(b, v)
	return l
}

func numbers(n int) []int {
	var out []int
	for i := range n {
		out = append(out, i+1)
	}
	return out
}

// smallSquares returns the small squares of a region.
func smallSquares(region []api.Square) []api.Square {
	l, _ := places.Coarse(region, 0)
	return l
}

// caseOf is the case of a base and a register, if it is valid and possible.
func caseOf(b api.Base, r api.Register) (c api.Case, possible bool) {
	c, e := register.CaseOf(b, r)
	if e != api.OK {
		return api.Case{}, false
	}
	is, _ := answers.Possible(c)
	return c, is
}

// someBook returns a book with few names, and up to two changes in the years 1 and 2.
func someBook(r *rand.Rand) api.NameBook {
	b := api.NameBook{First: numbers(1 + r.IntN(3))}
	for range r.IntN(3) {
		l := lastNames(b)
		to := someOf(r, append([]int{5, 6}, l...))
		if longer, e := names.Apply(b, api.Change{Year: 1 + len(b.Changes), From: someOf(r, l), To: to}); e == api.OK {
			b = longer
		}
	}
	return b
}

// someBase returns a base with few names, in a county of up to 12 of 16 small squares.
func someBase(r *rand.Rand) api.Base {
	b := api.Base{Book: someBook(r), Matrix: api.Matrix{States: []int{2}}, Lamps: []api.Lamp{{ID: 7, Power: 100}}, Houses: 2}
	var l []api.Square
	for _, i := range r.Perm(16)[:4+r.IntN(9)] {
		l = append(l, square(i%4, i/4))
	}
	b.County, _ = places.Normal(l)
	for _, name := range numbers(6) {
		if r.IntN(2) == 0 {
			b.Matrix.Rows = append(b.Matrix.Rows, api.Row{Name: name, May: []int{1 + r.IntN(3)}})
		}
		if r.IntN(2) == 0 {
			b.Licences = append(b.Licences, api.Licence{Name: name, Level: r.IntN(3), Least: 1 + r.IntN(4)})
		}
	}
	return b
}

// someRegister returns a small register; its case may be impossible.
func someRegister(r *rand.Rand, b api.Base) api.Register {
	out := api.Register{Book: b.Book}
	for i := range 1 + r.IntN(3) {
		out.Catches = append(out.Catches, api.Catch{
			Sheet: at(i + 1), Observer: 5 + r.IntN(2), Square: pick(r, smallSquares(b.County)...), Night: 10 + r.IntN(3), Lamp: 7, Total: span(0, 2+r.IntN(5)),
		})
	}
	for line := range r.IntN(5) {
		x := api.Record{Sheet: pick(r, out.Catches...).Sheet, Line: line, State: pick(r, 0, 0, 1, 1, 2, 3), Year: r.IntN(3), Count: someSpan(r, 2)}
		l := namesOfYear(b.Book, x.Year)
		x.Said = pick(r, l...)
		if r.IntN(2) == 0 {
			x.Names = someOf(r, l)
		}
		for range max(0, r.IntN(4)-1) {
			x.Seen = append(x.Seen, []int{pick(r, 1, 2, 3, 3)})
		}
		out.Records = append(out.Records, x)
	}
	for range max(0, r.IntN(5)-2) {
		year := r.IntN(3)
		l := namesOfYear(b.Book, year)
		s := api.Series{Observer: 5 + r.IntN(2), Said: pick(r, l...), Year: year, From: 9, To: 10 + r.IntN(3), Name: pick(r, l...), Count: span(0, 1+r.IntN(3))}
		out.Series = append(out.Series, s)
	}
	return out
}
