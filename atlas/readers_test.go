package atlas_test

import (
	"testing"

	"noctuary/api"
	"noctuary/atlas"
)

// twice is an atlas, of any form, with two answers and two maps of some names.
func twice() api.Atlas {
	return api.Atlas{
		Answers: []api.Answer{
			{Name: 7, Count: span(1, 2), First: span(3, 4), Last: span(5, 6), Sure: []api.Square{square(1, 1)}, May: []api.Square{square(1, 1), square(2, 2)}},
			{Name: -5, Count: span(-1, 0)},
			{Name: 7, Count: span(8, 9), First: span(8, 9), Last: span(8, 9)},
			{Name: huge, Count: span(0, huge)},
		},
		Maps: []api.DotMap{{Name: 3}, {Name: 7, Dots: []api.Square{square(4, 4)}, Region: []api.Square{of(5, 0, 0)}}, {Name: 7}},
	}
}

// P10.1 (A6 to A10): what is read from the first answer, or map, of a name.
func TestReaders(t *testing.T) {
	for _, trouble := range []api.Errno{api.OK, api.ErrClash, -1} {
		x := twice()
		x.Trouble = trouble
		s, e := atlas.CountOf(x, 7)
		want(t, "CountOf", s, e, span(1, 2))
		s, e = atlas.FirstOf(x, 7)
		want(t, "FirstOf", s, e, span(3, 4))
		s, e = atlas.LastOf(x, 7)
		want(t, "LastOf", s, e, span(5, 6))
		l, e := atlas.SureOf(x, 7)
		want(t, "SureOf", l, e, []api.Square{square(1, 1)})
		m, e := atlas.MapOf(x, 7)
		want(t, "MapOf", m, e, x.Maps[1])
		s, e = atlas.CountOf(x, huge)
		want(t, "CountOf the last one", s, e, span(0, huge))
		l, e = atlas.SureOf(x, -5)
		want(t, "SureOf of nothing", l, e, nil)
		m, e = atlas.MapOf(x, 3)
		want(t, "MapOf of nothing", m, e, api.DotMap{Name: 3})
	}
}

// P10.1 (A6 to A10): names that are not there.
func TestReadersOfNoNames(t *testing.T) {
	for _, name := range []int{0, 5, -huge - 1} {
		for _, x := range []api.Atlas{twice(), {}} {
			s, e := atlas.CountOf(x, name)
			wantError(t, "CountOf", s, e, api.ErrNone)
			s, e = atlas.FirstOf(x, name)
			wantError(t, "FirstOf", s, e, api.ErrNone)
			s, e = atlas.LastOf(x, name)
			wantError(t, "LastOf", s, e, api.ErrNone)
			l, e := atlas.SureOf(x, name)
			wantError(t, "SureOf", l, e, api.ErrNone)
			m, e := atlas.MapOf(x, name)
			wantError(t, "MapOf", m, e, api.ErrNone)
		}
	}
	m, e := atlas.MapOf(twice(), huge)
	wantError(t, "MapOf of a name with an answer alone", m, e, api.ErrNone)
	s, e := atlas.CountOf(twice(), 3)
	wantError(t, "CountOf of a name with a map alone", s, e, api.ErrNone)
}

// P10.1 (A6 to A10): of the sample.
func TestReadersOfSample(t *testing.T) {
	x := sampleAtlas(t)
	for _, a := range sampleAnswers() {
		count, e := atlas.CountOf(x, a.Name)
		want(t, "CountOf", count, e, a.Count)
		first, e := atlas.FirstOf(x, a.Name)
		want(t, "FirstOf", first, e, a.First)
		last, e := atlas.LastOf(x, a.Name)
		want(t, "LastOf", last, e, a.Last)
		sure, e := atlas.SureOf(x, a.Name)
		want(t, "SureOf", sure, e, a.Sure)
	}
	for _, right := range sampleMaps() {
		m, e := atlas.MapOf(x, right.Name)
		want(t, "MapOf", m, e, right)
	}
}

// P10.1 (A11): how many names there were.
func TestRichness(t *testing.T) {
	for _, c := range []struct {
		x     api.Atlas
		right api.Span
	}{
		{sampleAtlas(t), span(4, 5)},
		{twice(), span(2, 3)},
		{api.Atlas{}, span(0, 0)},
		{api.Atlas{Answers: []api.Answer{{}, {Count: span(0, 1)}, {Count: span(1, 0)}}}, span(1, 1)},
	} {
		s, e := atlas.Richness(c.x)
		want(t, "Richness", s, e, c.right)
		for _, trouble := range []api.Errno{api.ErrClash, api.ErrArg, -1} {
			c.x.Trouble = trouble
			s, e = atlas.Richness(c.x)
			wantError(t, "Richness with trouble", s, e, api.ErrAtlas)
		}
	}
}

// P10.1 (A12): the parts of an answer in which atlases may differ.
func TestCompare(t *testing.T) {
	for what, c := range map[string]struct {
		change func(a *api.Answer)
		right  []int
	}{
		"Count":   {func(a *api.Answer) { a.Count.Lo = 0 }, []int{7}},
		"First":   {func(a *api.Answer) { a.First.Hi = 0 }, []int{7}},
		"Last":    {func(a *api.Answer) { a.Last.Lo = 0 }, []int{7}},
		"Sure":    {func(a *api.Answer) { a.Sure = nil }, []int{7}},
		"May":     {func(a *api.Answer) { a.May = a.May[1:] }, []int{7}},
		"Name":    {func(a *api.Answer) { a.Name = 6 }, []int{6, 7}},
		"Least":   {func(a *api.Answer) { a.Least = []int{1} }, nil},
		"Most":    {func(a *api.Answer) { a.Most = []int{1} }, nil},
		"LowCut":  {func(a *api.Answer) { a.LowCut = []int{1} }, nil},
		"HighCut": {func(a *api.Answer) { a.HighCut = []int{1} }, nil},
		"nothing": {func(a *api.Answer) {}, nil},
	} {
		x, y := twice(), twice()
		c.change(&y.Answers[0])
		l, e := atlas.Compare(x, y)
		want(t, "Compare of another "+what, l, e, c.right)
		l, e = atlas.Compare(y, x)
		want(t, "Compare, the other way round, of another "+what, l, e, c.right)
	}
}

// P10.1 (A12): the first answers alone, names in order, empty squares, and trouble.
func TestCompareOfNames(t *testing.T) {
	x, y := twice(), twice()
	y.Answers[2].Count, y.Answers[1].May = span(0, 0), []api.Square{}
	l, e := atlas.Compare(x, y)
	want(t, "Compare of other second answers", l, e, nil)
	l, e = atlas.Compare(x, api.Atlas{})
	want(t, "Compare with none", l, e, []int{-5, 7, huge})
	l, e = atlas.Compare(api.Atlas{}, x)
	want(t, "Compare of none", l, e, []int{-5, 7, huge})
	y.Answers = append([]api.Answer{{Name: 9}, {Name: -9}}, y.Answers...)
	y.Answers[3].First.Lo = 5
	l, e = atlas.Compare(x, y)
	want(t, "Compare with further ones", l, e, []int{-9, -5, 9})
	for _, trouble := range []api.Errno{api.ErrClash, api.ErrArg, -1} {
		y.Trouble = trouble
		l, e = atlas.Compare(x, y)
		wantError(t, "Compare with trouble", l, e, api.ErrAtlas)
		l, e = atlas.Compare(y, x)
		wantError(t, "Compare of trouble", l, e, api.ErrAtlas)
		l, e = atlas.Compare(y, y)
		wantError(t, "Compare of trouble twice", l, e, api.ErrAtlas)
	}
}
