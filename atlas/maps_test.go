package atlas_test

import (
	"math/rand/v2"
	"slices"
	"testing"

	"noctuary/answers"
	"noctuary/api"
	"noctuary/atlas"
	"noctuary/dots"
	"noctuary/places"
)

// wrongMaps returns maps that are none of the sample's county.
func wrongMaps() []api.DotMap {
	return []api.DotMap{
		{},
		{Name: api.MaxID + 1},
		{Name: 77, Dots: []api.Square{of(11, 0, 0)}},
		{Name: 77, Dots: []api.Square{square(2, 0), square(1, 0)}},
		{Name: 77, Dots: []api.Square{square(2, 0), of(2, 0, 0)}},
		{Name: 77, Dots: []api.Square{square(4, 0)}}, // beside the county
		{Name: 77, Region: []api.Square{of(2, 0, 0), square(9, 9)}},
	}
}

// P10.1 (A3): the maps of the sample. Of 5 there is none outside the county, and of 9 none that its licence allows.
func TestMaps(t *testing.T) {
	x, e := mapsOf(sampleBase(), sampleRegister(), nil)
	want(t, "Maps", x, e, published{sampleMaps(), []int{5, 9}})
	x, e = mapsOf(changedBase(func(b *api.Base) { b.Licences = nil }), sampleRegister(), nil)
	fine := []api.DotMap{
		{Name: 2, Dots: []api.Square{square(2, 3)}, Region: sampleBase().County},
		{Name: 3, Dots: []api.Square{square(2, 3)}, Region: sampleBase().County},
		{Name: 9, Dots: []api.Square{square(3, 3)}, Region: sampleBase().County},
	}
	want(t, "Maps without licences", x, e, published{fine, []int{5}})
	x, e = mapsOf(changedBase(func(b *api.Base) { b.County = nil }), sampleRegister(), nil)
	want(t, "Maps of no county", x, e, published{nil, []int{2, 3, 5, 9}})
	x, e = mapsOf(sampleBase(), api.Register{Book: sampleBase().Book}, nil)
	want(t, "Maps of no catches", x, e, published{})
}

// P10.1 (A3): squares that surely have a name may make up a greater one; each small square in it is published.
func TestMapsOfWholeSquares(t *testing.T) {
	b := changedBase(func(b *api.Base) { b.Licences = nil })
	r := api.Register{Book: b.Book}
	for i := range 5 {
		r.Catches = append(r.Catches, api.Catch{Sheet: at(i + 1), Observer: 1, Square: square(i%4/2, i%2+i/4*2), Lamp: 3, Night: i, Total: span(0, 9)})
		r.Records = append(r.Records, api.Record{Sheet: at(i + 1), Said: 2, Count: span(1, 1)})
	}
	a, e := atlas.AnswerOf(b, r, 2)
	want(t, "Sure", a.Sure, e, []api.Square{square(0, 2), of(1, 0, 0)})
	x, e := mapsOf(b, r, nil)
	all := []api.Square{square(0, 0), square(1, 0), square(0, 1), square(1, 1), square(0, 2)}
	want(t, "Maps", x, e, published{[]api.DotMap{{Name: 2, Dots: all, Region: b.County}}, nil})
}

// P10.1 (A3): each error of Publish for which a name is held, and old maps of other names.
func TestHeld(t *testing.T) {
	b, r := sampleBase(), sampleRegister()
	elsewhere, _ := places.Minus(b.County, []api.Square{square(2, 3)})
	for what, c := range map[string]struct {
		old  []api.DotMap
		held []int
	}{
		"a map that says that 3 was elsewhere alone":    {[]api.DotMap{{Name: 3, Dots: []api.Square{square(0, 0)}, Region: b.County}}, []int{3, 5, 9}},
		"a map that says that 3 was elsewhere, too":     {[]api.DotMap{{Name: 3, Dots: []api.Square{square(0, 0)}}}, []int{3, 5, 9}},
		"a map that leaves one square of 2":             {[]api.DotMap{{Name: 2, Region: elsewhere}}, []int{2, 5, 9}},
		"a map that tells 2 too finely":                 {[]api.DotMap{{Name: 2, Dots: []api.Square{square(2, 3)}}}, []int{2, 5, 9}},
		"maps that contradict one another":              {[]api.DotMap{{Name: 3, Dots: []api.Square{square(2, 3)}}, {Name: 3, Region: b.County}}, []int{3, 5, 9}},
		"maps of other names that contradict":           {[]api.DotMap{{Name: 4, Dots: []api.Square{square(2, 3)}}, {Name: 4, Region: b.County}, {Name: 77, Region: b.County}}, []int{5, 9}},
		"as many maps of another name as there may be":  {slices.Repeat([]api.DotMap{{Name: 77, Region: b.County}}, 200), []int{5, 9}},
		"as many maps of names that are nowhere surely": {slices.Repeat([]api.DotMap{{Name: 4, Region: b.County}}, 200), []int{5, 9}},
	} {
		x, e := mapsOf(b, r, c.old)
		var right []api.DotMap
		for _, m := range sampleMaps() {
			if !slices.Contains(c.held, m.Name) {
				right = append(right, m)
			}
		}
		want(t, "Maps with "+what, x, e, published{right, c.held})
	}
	x, e := mapsOf(changedBase(func(b *api.Base) { b.Licences[0].Level = 2 }), r, []api.DotMap{{Name: 2, Dots: []api.Square{of(1, 1, 1)}}})
	want(t, "Maps with an old map that is finer than the licence", x, e, published{sampleMaps()[1:], []int{2, 5, 9}})
}

// P10.1 (A3): an old map that says that the name was nowhere else in its parent makes the dot greater.
func TestRaised(t *testing.T) {
	old := []api.DotMap{{Name: 2, Region: []api.Square{square(2, 2), square(3, 2), square(3, 3)}}}
	x, e := mapsOf(sampleBase(), sampleRegister(), old)
	raised := api.DotMap{Name: 2, Dots: []api.Square{of(2, 0, 0)}, Region: sampleBase().County}
	want(t, "Maps", x, e, published{[]api.DotMap{raised, sampleMaps()[1]}, []int{5, 9}})
}

// P10.1 (A3): its errors, in their order.
func TestErrorsOfMaps(t *testing.T) {
	b, r := sampleBase(), sampleRegister()
	tooMany := make([]api.DotMap, 201)
	x, e := mapsOf(b, clashRegister(), tooMany)
	wantError(t, "Maps with a clash", x, e, api.ErrClash)
	x, e = mapsOf(b, clashRegister(), wrongMaps())
	wantError(t, "Maps with a clash and wrong maps", x, e, api.ErrClash)
	x, e = mapsOf(b, r, tooMany)
	wantError(t, "Maps with too many wrong maps", x, e, api.ErrLimit)
	full := slices.Repeat([]api.DotMap{{Name: 3}}, 200)
	for i, m := range wrongMaps() {
		x, e = mapsOf(b, r, []api.DotMap{m})
		wantError(t, "Maps with the wrong map "+text(i), x, e, api.ErrMap)
		x, e = mapsOf(b, r, append(slices.Clone(full[:199]), m))
		wantError(t, "Maps with many, and the wrong map "+text(i), x, e, api.ErrMap)
	}
	x, e = mapsOf(b, r, full)
	wantError(t, "Maps with 200 of one of the names", x, e, api.ErrLimit)
	x, e = mapsOf(b, r, full[:199])
	want(t, "Maps with 199 of one of the names", x, e, published{sampleMaps(), []int{5, 9}})
}

// holes is a map that leaves more of the whole map open than a region has.
func holes(name int) api.DotMap {
	m := api.DotMap{Name: name}
	for y := range 64 {
		for x := range 64 {
			m.Region = append(m.Region, square(2*x, 2*y))
		}
	}
	return m
}

// P10.1 (A3): an error of Publish that holds no name.
func TestMapsOfHoles(t *testing.T) {
	b := changedBase(func(b *api.Base) { b.County = []api.Square{of(10, 0, 0)} })
	for name, right := range map[int]api.Errno{2: api.ErrLimit, 3: api.ErrLimit, 4: api.OK, 77: api.OK} {
		_, e := mapsOf(b, sampleRegister(), []api.DotMap{holes(name)})
		wantSame(t, "the error of Maps with holes of "+text(name), e, right)
		_, e = atlas.Build(b, sampleRegister(), []api.DotMap{holes(name)})
		wantSame(t, "the error of Build with holes of "+text(name), e, right)
		x, e := atlas.Build(b, clashRegister(), []api.DotMap{holes(name)})
		wantSame(t, "Build with a clash and holes", e, api.OK)
		wantSame(t, "Trouble", x.Trouble, api.ErrClash)
	}
}

// mapsByWords is Maps by the chapter's words, of a case that is possible.
func mapsByWords(b api.Base, c api.Case, old []api.DotMap) (published, api.Errno) {
	var out published
	for _, name := range lastNames(c.Book) {
		sure, _ := answers.Sure(c, name)
		if len(sure) == 0 {
			continue
		}
		licence := api.Licence{Name: name, Least: 1}
		for _, x := range b.Licences {
			if x.Name == name {
				licence = x
			}
		}
		of := slices.DeleteFunc(slices.Clone(old), func(m api.DotMap) bool { return m.Name != name })
		m, e := dots.Publish(b.County, licence, of, smallSquares(sure))
		switch e {
		case api.OK:
			out.maps = append(out.maps, m)
		case api.ErrLicence, api.ErrFalse, api.ErrNone, api.ErrSquare:
			out.held = append(out.held, name)
		default:
			return published{}, e
		}
	}
	return out, api.OK
}

// someMap returns any valid map of a name.
func someMap(r *rand.Rand, b api.Base) api.DotMap {
	m := api.DotMap{Name: 1 + r.IntN(6)}
	for _, s := range smallSquares(b.County) {
		if r.IntN(5) == 0 {
			m.Dots = append(m.Dots, s)
		}
		if r.IntN(5) == 0 {
			m.Region = append(m.Region, s)
		}
	}
	m.Region, _ = places.Normal(m.Region)
	return m
}

// P10.1 (A3): Maps is what its words say, with any old maps, and with those of Maps.
func TestMapsByWords(t *testing.T) {
	r := random()
	count := 0
	for range 400 {
		b := someBase(r)
		reg := someRegister(r, b)
		c, possible := caseOf(b, reg)
		if !possible {
			continue
		}
		var old []api.DotMap
		for range r.IntN(3) {
			old = append(old, someMap(r, b))
		}
		for range 3 {
			right, f := mapsByWords(b, c, old)
			x, e := mapsOf(b, reg, old)
			wantSame(t, "the error of Maps", e, f)
			wantSame(t, "Maps", x, right)
			old = append(old, x.maps...)
			count += len(x.maps)
		}
	}
	if count < 100 {
		t.Errorf("only %d maps", count)
	}
}
