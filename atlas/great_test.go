package atlas_test

import (
	"math/rand/v2"
	"slices"
	"testing"

	"noctuary/api"
	"noctuary/atlas"
)

// greatBook has as many names and changes as there may be.
func greatBook() api.NameBook {
	b := api.NameBook{First: numbers(api.MaxNames)}
	for i := range api.MaxChanges {
		var from, to []int
		for k := range 5 {
			from, to = append(from, 5*i+k+1), append(to, 1000+5*i+k)
		}
		b.Changes = append(b.Changes, api.Change{Year: 4 * i, From: from, To: to[:4+i%2]})
	}
	return b
}

// great returns a base and a register with as many names, changes, catches and records as there may be.
func great(r *rand.Rand) (api.Base, api.Register) {
	book := greatBook()
	b := api.Base{Book: book, Lamps: []api.Lamp{{ID: 7, Power: 100}}, County: []api.Square{{Level: 10}}, Houses: 8}
	b.Matrix.States = slices.Repeat([]int{2}, api.MaxChars)
	for _, name := range lastNames(book) {
		b.Matrix.Rows = append(b.Matrix.Rows, api.Row{Name: name, May: append([]int{1 + name%3}, slices.Repeat([]int{3}, api.MaxChars-1)...)})
	}
	out := api.Register{Book: book}
	for i := range api.MaxRecords {
		out.Catches = append(out.Catches, api.Catch{Sheet: at(1 + i), Observer: 5, Square: square(2*(i%20), 2*(i/20)), Night: 1000 + i%8, Lamp: 7, Total: span(0, api.MaxCount)})
		x := api.Record{Sheet: at(1 + i), Year: 4 * (i % 6), Count: span(r.IntN(2), 10+r.IntN(10)), Seen: [][]int{slices.Repeat([]int{3}, api.MaxChars)}}
		l := namesOfYear(book, x.Year)
		x.Said = pick(r, l...)
		if i%2 == 0 {
			x.Names = someOf(r, l)
		}
		out.Records = append(out.Records, x)
	}
	for range 40 {
		x := pick(r, out.Records...)
		out.Series = append(out.Series, api.Series{Observer: 5, Said: x.Said, Year: x.Year, To: api.MaxDay, Name: x.Said, Count: span(0, 5000)})
	}
	return b, out
}

// P10.2, R1: the greatest atlas.
func TestGreatAtlas(t *testing.T) {
	b, reg := great(random())
	x := mustBuild(t, b, reg, nil)
	if x.Trouble != api.OK || len(x.Answers) != 368 || len(x.Maps) < 20 {
		t.Fatalf("Trouble %d, %d answers, %d maps", x.Trouble, len(x.Answers), len(x.Maps))
	}
	l, e := atlas.Encode(x)
	y, f := atlas.Decode(l)
	if e != api.OK || f != api.OK {
		t.Fatalf("Encode: error %d, Decode: error %d", e, f)
	}
	wantFaults(t, "the greatest atlas", y, nil)
}

// P10.1, R5: the greatest numbers of moths.
func TestGreatCounts(t *testing.T) {
	b := sampleBase()
	reg := api.Register{Book: b.Book}
	for i := range api.MaxRecords {
		reg.Catches = append(reg.Catches, api.Catch{Sheet: at(1 + i), Observer: 5, Square: square(i%4, i/4%4), Night: api.MaxDay - i, Lamp: 3, Total: span(0, api.MaxCount)})
		reg.Records = append(reg.Records, api.Record{Sheet: at(1 + i), Said: 1, Count: span(api.MaxCount, api.MaxCount)})
	}
	x := mustBuild(t, b, reg, nil)
	wantFaults(t, "an atlas of many moths", x, nil)
	for _, name := range []int{3, 4} {
		s, e := atlas.CountOf(x, name)
		want(t, "CountOf", s, e, span(0, 400*api.MaxCount))
	}
	reg.Records[399].Names = []int{2}
	x = mustBuild(t, b, reg, nil)
	s, e := atlas.FirstOf(x, 2)
	want(t, "FirstOf", s, e, span(api.MaxDay-399, api.MaxDay-399))
	s, e = atlas.CountOf(x, 2)
	want(t, "CountOf", s, e, span(api.MaxCount, api.MaxCount))
}
