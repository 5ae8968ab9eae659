package atlas_test

import (
	"bytes"
	"slices"
	"testing"

	"noctuary/api"
	"noctuary/atlas"
)

// The following functions tell the numbers of the encoding of an atlas by the chapter's words.

// each returns the length of a list, and what is told of each element.
func each[T any](l []T, numbers func(x T) []int) []int {
	out := []int{len(l)}
	for _, x := range l {
		out = append(out, numbers(x)...)
	}
	return out
}

func flatList(l []int) []int { return each(l, func(n int) []int { return []int{n} }) }

func flatSpan(s api.Span) []int { return []int{s.Lo, s.Hi} }

func flatSquares(l []api.Square) []int {
	return each(l, func(s api.Square) []int { return []int{s.Level, s.X, s.Y} })
}

func flatBook(b api.NameBook) []int {
	return slices.Concat(flatList(b.First), each(b.Changes, func(x api.Change) []int {
		return slices.Concat([]int{x.Year}, flatList(x.From), flatList(x.To))
	}))
}

func flatMatrix(m api.Matrix) []int {
	return slices.Concat(flatList(m.States), each(m.Rows, func(r api.Row) []int {
		return slices.Concat([]int{r.Name}, flatList(r.May))
	}))
}

func flatRules(l []api.Rule) []int {
	return each(l, func(x api.Rule) []int {
		return slices.Concat([]int{x.Name}, flatSquares(x.Region), []int{x.Season.From, x.Season.To, x.Most})
	})
}

func flatLamps(l []api.Lamp) []int {
	return each(l, func(x api.Lamp) []int { return []int{x.ID, x.Power} })
}

func flatBase(b api.Base) []int {
	licences := each(b.Licences, func(x api.Licence) []int { return []int{x.Name, x.Level, x.Least} })
	return slices.Concat(flatBook(b.Book), flatMatrix(b.Matrix), flatRules(b.Rules), flatLamps(b.Lamps), flatSquares(b.County), licences, []int{b.Houses})
}

func flatCase(c api.Case) []int {
	catches := each(c.Catches, func(x api.Catch) []int {
		return []int{x.Sheet.House, x.Sheet.Num, x.Observer, x.Square.Level, x.Square.X, x.Square.Y, x.Night, x.Lamp, x.Total.Lo, x.Total.Hi}
	})
	records := each(c.Records, func(x api.Record) []int {
		head := []int{x.Sheet.House, x.Sheet.Num, x.Line, x.State, x.Said, x.Year, x.Count.Lo, x.Count.Hi}
		return slices.Concat(head, flatList(x.Names), each(x.Seen, flatList))
	})
	series := each(c.Series, func(x api.Series) []int {
		return []int{x.Observer, x.Said, x.Year, x.From, x.To, x.Name, x.Count.Lo, x.Count.Hi}
	})
	return slices.Concat(flatBook(c.Book), flatMatrix(c.Matrix), flatRules(c.Rules), flatLamps(c.Lamps), catches, records, series)
}

func flatAnswer(a api.Answer) []int {
	return slices.Concat([]int{a.Name}, flatSpan(a.Count), flatList(a.Least), flatList(a.Most), flatList(a.LowCut), flatList(a.HighCut),
		flatSpan(a.First), flatSpan(a.Last), flatSquares(a.Sure), flatSquares(a.May))
}

func flat(x api.Atlas) []int {
	maps := each(x.Maps, func(m api.DotMap) []int {
		return slices.Concat([]int{m.Name}, flatSquares(m.Dots), flatSquares(m.Region))
	})
	return slices.Concat(flatBase(x.Base), flatCase(x.Case), each(x.Answers, flatAnswer), maps,
		flatList(x.Held), flatList(x.Clash), flatList(x.Cut), []int{int(x.Trouble)})
}

// numberOf returns the encoding of a number by the words of layer 9.
func numberOf(n int) []byte {
	u := uint64(2) * uint64(n)
	if n < 0 {
		u = uint64(-2*(n+1)) + 1
	}
	var out []byte
	for u >= 128 {
		out = append(out, byte(u%128+128))
		u /= 128
	}
	return append(out, byte(u))
}

func numbersOf(l []int) []byte {
	var out []byte
	for _, n := range l {
		out = append(out, numberOf(n)...)
	}
	return out
}

// changed returns a list with another number at an index.
func changed(l []int, i, n int) []int {
	out := slices.Clone(l)
	out[i] = n
	return out
}

// strange is an atlas that is none, with other numbers in all fields.
func strange() api.Atlas {
	n := 0
	next := func() int { n = -n*3 - 1; return n % (1 << 61) }
	list := func() []int { return []int{next(), next(), next()} }
	squares := func() []api.Square { return []api.Square{{Level: next(), X: next(), Y: next()}, {Level: next()}} }
	between := func() api.Span { return span(next(), next()) }
	book := func() api.NameBook {
		return api.NameBook{First: list(), Changes: []api.Change{{Year: next(), From: list(), To: list()}, {Year: next()}}}
	}
	matrix := func() api.Matrix {
		return api.Matrix{States: list(), Rows: []api.Row{{Name: next(), May: list()}, {Name: next()}}}
	}
	rules := func() []api.Rule {
		return []api.Rule{{Name: next(), Region: squares(), Season: api.Season{From: next(), To: next()}, Most: next()}}
	}
	lamps := func() []api.Lamp { return []api.Lamp{{ID: next(), Power: next()}, {}} }
	name := func() api.Name { return api.Name{House: next(), Num: next()} }
	return api.Atlas{
		Base: api.Base{Book: book(), Matrix: matrix(), Rules: rules(), Lamps: lamps(), County: squares(), Licences: []api.Licence{{Name: next(), Level: next(), Least: next()}}, Houses: next()},
		Case: api.Case{
			Book: book(), Matrix: matrix(), Rules: rules(), Lamps: lamps(),
			Catches: []api.Catch{{Sheet: name(), Observer: next(), Square: squares()[0], Night: next(), Lamp: next(), Total: between()}},
			Records: []api.Record{{Sheet: name(), Line: next(), State: next(), Said: next(), Year: next(), Count: between(), Names: list(), Seen: [][]int{list(), nil, list()}}, {}},
			Series:  []api.Series{{Observer: next(), Said: next(), Year: next(), From: next(), To: next(), Name: next(), Count: between()}},
		},
		Answers: []api.Answer{{Name: next(), Count: between(), Least: list(), Most: list(), LowCut: list(), HighCut: list(), First: between(), Last: between(), Sure: squares(), May: squares()}, {}},
		Maps:    []api.DotMap{{Name: next(), Dots: squares(), Region: squares()}, {}},
		Held:    list(), Clash: list(), Cut: list(), Trouble: api.Errno(next()),
	}
}

// P10.1 (A13), Examples.
func TestHash(t *testing.T) {
	for s, right := range map[string]int{"": 17, "\x00": 4608, "\x01": 4609, "\x00\x00": 271*4608 + 1, "\xff": 4863} {
		wantSame(t, "Hash of "+text([]byte(s)), atlas.Hash([]byte(s)), right)
	}
	h := 17
	var l []byte
	for i := range 5000 {
		l = append(l, byte(i*i>>3))
		h = (271*h + int(l[i]) + 1) % 2147483587
		wantSame(t, "Hash", atlas.Hash(l), h)
	}
}

// P10.1 (A14), P10.2: encodings by the chapter's words, and back.
func TestEncode(t *testing.T) {
	for what, x := range map[string]api.Atlas{
		"nothing": {},
		"sample":  sampleAtlas(t),
		"clash":   mustBuild(t, sampleBase(), clashRegister(), nil),
		"strange": strange(),
		"trouble": {Trouble: 1<<62 - 1, Held: []int{-1 << 62}},
	} {
		l, e := atlas.Encode(x)
		if right := numbersOf(flat(x)); e != api.OK || !bytes.Equal(l, right) {
			t.Errorf("Encode of %s: %v, error %d; want %v", what, l, e, right)
		}
		y, e := atlas.Decode(l)
		want(t, "Decode of "+what, y, e, x)
	}
}

// P10.1 (A14): numbers that have no encoding, in each place.
func TestEncodeOfGreatNumbers(t *testing.T) {
	for _, n := range []int{1 << 62, -1<<62 - 1, huge, -huge - 1} {
		for what, x := range map[string]api.Atlas{
			"Houses":  {Base: api.Base{Houses: n}},
			"First":   {Base: api.Base{Book: api.NameBook{First: []int{0, n}}}},
			"Seen":    {Case: api.Case{Records: []api.Record{{Seen: [][]int{{0}, {n}}}}}},
			"Least":   {Answers: []api.Answer{{}, {Least: []int{n}}}},
			"Region":  {Maps: []api.DotMap{{Region: []api.Square{{Y: n}}}}},
			"Trouble": {Trouble: api.Errno(n)},
		} {
			l, e := atlas.Encode(x)
			wantError(t, "Encode of a great number in "+what, l, e, api.ErrLimit)
		}
	}
}

// P10.1 (A15), P10.2: bytes that are no atlas.
func TestDecode(t *testing.T) {
	l, _ := atlas.Encode(sampleAtlas(t))
	for i := range l {
		x, e := atlas.Decode(l[:i])
		wantError(t, "Decode of a beginning", x, e, api.ErrBytes)
	}
	empty, _ := atlas.Encode(api.Atlas{})
	for what, b := range map[string][]byte{
		"nothing":                nil,
		"a byte more":            append(slices.Clone(l), 0),
		"a list of -1 elements":  append([]byte{1}, empty...),
		"a number of more bytes": append(slices.Clone(empty[:len(empty)-1]), 128, 0),
		"a length of more bytes": append([]byte{128, 0}, empty[1:]...),
		"a very long list":       append([]byte{254, 255, 255, 255, 255, 255, 255, 255, 127}, empty...),
		"a number that is great": append(slices.Clone(empty[:len(empty)-1]), 128, 128, 128, 128, 128, 128, 128, 128, 128, 1),
	} {
		x, e := atlas.Decode(b)
		wantError(t, "Decode of "+what, x, e, api.ErrBytes)
	}
}

// P10.2: what Decode accepts is what Encode makes of it.
func TestDecodeOfChangedBytes(t *testing.T) {
	r := random()
	l, _ := atlas.Encode(sampleAtlas(t))
	accepted := 0
	for range 20000 {
		b := slices.Clone(l)
		for range 1 + r.IntN(2) {
			b[r.IntN(len(b))] ^= 1 << r.IntN(8)
		}
		x, e := atlas.Decode(b)
		if e != api.OK {
			wantError(t, "Decode of changed bytes", x, e, api.ErrBytes)
			continue
		}
		accepted++
		again, e := atlas.Encode(x)
		if e != api.OK || !bytes.Equal(again, b) {
			t.Fatalf("%v is decoded, and encoded as %v (error %d)", b, again, e)
		}
	}
	if accepted < 1000 {
		t.Errorf("only %d were accepted", accepted)
	}
}
