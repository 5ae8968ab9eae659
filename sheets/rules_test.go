package sheets_test

import (
	"math/rand/v2"
	"slices"
	"testing"

	"noctuary/api"
	"noctuary/places"
	"noctuary/sheets"
)

// manyRules returns n rules, the last one of the last name.
func manyRules(n int) []api.Rule {
	var out []api.Rule
	for i := range n {
		out = append(out, rule(api.MaxID-n+1+i, everywhere(), season(101, 1231), i))
	}
	return out
}

// P4.1 (R14).
func TestCheckRules(t *testing.T) {
	all := season(101, 1231)
	good := map[string][]api.Rule{
		"none":                   nil,
		"two":                    rules(),
		"as many as may be":      manyRules(api.MaxRules),
		"the first and the last": {rule(1, nil, all, 0), rule(api.MaxID, everywhere(), all, api.MaxCount)},
		"a season over new year": {rule(1, nil, season(1101, 229), 0)},
		"a region of squares":    {rule(1, []api.Square{{X: 9, Y: 9}, {Level: 1, X: 2, Y: 1}}, all, 0)},
	}
	for what, l := range good {
		if e := sheets.CheckRules(l); e != api.OK {
			t.Errorf("CheckRules of %s: error %d", what, e)
		}
	}
	for what, l := range badRules() {
		wantError(t, "CheckRules of "+what, nothing(sheets.CheckRules(l)), api.ErrRules)
		wantError(t, "RuleOf of "+what, number(sheets.RuleOf(l, 4)), api.ErrRules)
		wantError(t, "RuleOf of another name, of "+what, number(sheets.RuleOf(l, 999)), api.ErrRules)
		wantError(t, "Doubts of "+what, doubts(sheets.Doubts(l, sample())), api.ErrRules)
		wantError(t, "Doubts without lines, of "+what, doubts(sheets.Doubts(l, leastSheet())), api.ErrRules)
	}
}

// badRules returns lists of rules that are not valid.
func badRules() map[string][]api.Rule {
	all := season(101, 1231)
	good := rule(4, everywhere(), all, 2)
	of := func(name, most int) api.Rule { return rule(name, everywhere(), all, most) }
	return map[string][]api.Rule{
		"too many":                 manyRules(api.MaxRules + 1),
		"a Name 0":                 {of(0, 0)},
		"a Name below 0":           {of(-huge-1, 0), good},
		"a Name too great":         {good, of(api.MaxID+1, 0)},
		"a Name twice":             {good, of(4, 2)},
		"Names not in order":       {good, of(3, 2)},
		"a Most -1":                {of(4, -1)},
		"a Most too great":         {good, of(5, api.MaxCount+1)},
		"a Most that is huge":      {of(4, huge), of(5, 0)},
		"a season of nothing":      {rule(4, everywhere(), api.Season{}, 2)},
		"a season from no date":    {good, rule(5, everywhere(), season(230, 301), 2)},
		"a season to no date":      {rule(4, everywhere(), season(301, 1301), 2), of(5, 0)},
		"squares not in order":     {rule(4, []api.Square{{X: 1}, {}}, all, 2)},
		"a square in another one":  {good, rule(5, []api.Square{{}, {Level: 1}}, all, 2)},
		"a square that is none":    {rule(4, []api.Square{{Level: 11}}, all, 2)},
		"four children":            {good, rule(5, []api.Square{{}, {X: 1}, {Y: 1}, {X: 1, Y: 1}}, all, 2)},
		"a region of many squares": {rule(4, manySquares(api.MaxSquares+1), all, 2)},
	}
}

// manySquares returns n squares with gaps between them: a region, if they are not too many.
func manySquares(n int) []api.Square {
	var out []api.Square
	for i := range n {
		out = append(out, api.Square{X: 2 * (i % 256), Y: 2 * (i / 256)})
	}
	return out
}

// P4.1 (R15).
func TestRuleOf(t *testing.T) {
	l := []api.Rule{rule(1, nil, season(101, 102), 0), rule(5, nil, season(101, 102), 0), rule(api.MaxID, nil, season(101, 102), 0)}
	for i, name := range []int{1, 5, api.MaxID} {
		got, e := sheets.RuleOf(l, name)
		wantSame(t, "RuleOf", got, e, i)
	}
	for _, name := range []int{0, 2, 4, 6, api.MaxID - 1, api.MaxID + 1, -1, huge, -huge - 1} {
		wantError(t, "RuleOf of no rule", number(sheets.RuleOf(l, name)), api.ErrNone)
		wantError(t, "RuleOf of no rules", number(sheets.RuleOf(nil, name)), api.ErrNone)
	}
	many := manyRules(api.MaxRules)
	for i, x := range many {
		got, e := sheets.RuleOf(many, x.Name)
		wantSame(t, "RuleOf", got, e, i)
	}
}

// P4.1 (R16): the chapter's example.
func TestDoubts(t *testing.T) {
	l, e := sheets.Doubts([]api.Rule{rule(4, everywhere(), season(101, 1231), 2)}, sample())
	wantList(t, "Doubts", l, e, api.Doubt{Line: 0, Rule: 0, Kind: api.DoubtMany})
	l, e = sheets.Doubts(nil, sample())
	wantList(t, "Doubts of no rules", l, e)
	l, e = sheets.Doubts(rules(), leastSheet())
	wantList(t, "Doubts of no lines", l, e)
}

// P4.1 (R16): each kind, at its bounds. The sample's square is {0, 5, 6}, and its night, 100, begins on April 10th.
func TestKindsOfDoubts(t *testing.T) {
	all := season(101, 1231)
	cases := []struct {
		what  string
		r     api.Rule
		kinds []int
	}{
		{"nothing", rule(4, everywhere(), all, 3), nil},
		{"no place", rule(4, nil, all, 3), []int{api.DoubtPlace}},
		{"its place alone", rule(4, []api.Square{{X: 5, Y: 6}}, all, 3), nil},
		{"a place around it", rule(4, []api.Square{{X: 9}, {Level: 3}}, all, 3), nil},
		{"a place beside it", rule(4, []api.Square{{X: 6, Y: 5}}, all, 3), []int{api.DoubtPlace}},
		{"a greater place beside it", rule(4, []api.Square{{X: 9}, {Level: 1, X: 3, Y: 2}}, all, 3), []int{api.DoubtPlace}},
		{"its night alone", rule(4, everywhere(), season(410, 410), 3), nil},
		{"the night ahead of it", rule(4, everywhere(), season(101, 409), 3), []int{api.DoubtSeason}},
		{"the night behind it", rule(4, everywhere(), season(411, 1231), 3), []int{api.DoubtSeason}},
		{"a season over new year", rule(4, everywhere(), season(411, 410), 3), nil},
		{"a season over new year without it", rule(4, everywhere(), season(411, 409), 3), []int{api.DoubtSeason}},
		{"fewer", rule(4, everywhere(), all, 2), []int{api.DoubtMany}},
		{"none", rule(4, everywhere(), all, 0), []int{api.DoubtMany}},
		{"as many as may be", rule(4, everywhere(), all, api.MaxCount), nil},
		{"place and season", rule(4, nil, season(101, 101), 3), []int{api.DoubtPlace, api.DoubtSeason}},
		{"place and number", rule(4, nil, all, 2), []int{api.DoubtPlace, api.DoubtMany}},
		{"season and number", rule(4, everywhere(), season(101, 101), 2), []int{api.DoubtSeason, api.DoubtMany}},
		{"all", rule(4, nil, season(101, 101), 2), []int{api.DoubtPlace, api.DoubtSeason, api.DoubtMany}},
		{"all of another name", rule(5, nil, season(101, 101), 0), nil},
	}
	for _, x := range cases {
		var want []api.Doubt
		for _, kind := range x.kinds {
			want = append(want, api.Doubt{Line: 0, Rule: 1, Kind: kind})
		}
		l, e := sheets.Doubts([]api.Rule{rule(1, nil, all, 0), x.r}, sample())
		wantList(t, "Doubts with "+x.what, l, e, want...)
	}
}

// someRules returns rules of a few names, near the squares and nights of nearSheet.
func someRules(r *rand.Rand) []api.Rule {
	var out []api.Rule
	for name := range 6 {
		if r.IntN(3) == 0 {
			continue
		}
		region, _ := places.Normal(someSquares(r))
		ends := []int{101, 229, 301, 630, 1231}
		out = append(out, rule(1+name, region, season(ends[r.IntN(5)], ends[r.IntN(5)]), r.IntN(6)))
	}
	return out
}

func someSquares(r *rand.Rand) []api.Square {
	var out []api.Square
	for range r.IntN(9) {
		level := r.IntN(3)
		out = append(out, api.Square{Level: level, X: r.IntN(8 >> level), Y: r.IntN(8 >> level)})
	}
	return out
}

// nearSheet returns a sheet with lines of a few names.
func nearSheet(r *rand.Rand) api.Sheet {
	s := sheet(span(0, 100))
	s.Square, s.Night = api.Square{X: r.IntN(8), Y: r.IntN(8)}, r.IntN(800)
	for range r.IntN(8) {
		l := line(1+r.IntN(6), 0, 0)
		l.Count = someSpan(r, 7)
		s.Lines = append(s.Lines, l)
	}
	return s
}

// P4.1 (R16), P4.5: line by line, rule by rule, by the words of the chapter.
func TestDoubtsByWords(t *testing.T) {
	r := random()
	var kinds [4]int
	for range 1000 {
		l, s := someRules(r), nearSheet(r)
		var want []api.Doubt
		for i, x := range s.Lines {
			k := slices.IndexFunc(l, func(r api.Rule) bool { return r.Name == x.Name })
			if k < 0 {
				continue
			}
			lies := slices.ContainsFunc(l[k].Region, func(q api.Square) bool {
				return s.Square.X>>q.Level == q.X && s.Square.Y>>q.Level == q.Y
			})
			in, _ := places.InSeason(l[k].Season, s.Night)
			for kind, doubted := range map[int]bool{api.DoubtPlace: !lies, api.DoubtSeason: !in, api.DoubtMany: x.Count.Lo > l[k].Most} {
				if doubted {
					want = append(want, api.Doubt{Line: i, Rule: k, Kind: kind})
					kinds[kind]++
				}
			}
		}
		slices.SortFunc(want, func(a, b api.Doubt) int { return slices.Compare([]int{a.Line, a.Kind}, []int{b.Line, b.Kind}) })
		got, e := sheets.Doubts(l, s)
		wantList(t, "Doubts", got, e, want...)
	}
	if slices.Min(kinds[1:]) < 200 {
		t.Errorf("there were too few doubts: %v", kinds)
	}
}

// doubted returns the lines that rules doubt, which must be valid.
func doubted(t *testing.T, l []api.Rule, s api.Sheet) map[int]bool {
	t.Helper()
	found, e := sheets.Doubts(l, s)
	if e != api.OK {
		t.Fatalf("Doubts: error %d", e)
	}
	out := map[int]bool{}
	for _, d := range found {
		out[d.Line] = true
	}
	return out
}

// P4.5: with a wider Region, a greater Most, or a rule less, no line is doubted that was not; a line without a rule is not doubted.
func TestMilderRules(t *testing.T) {
	r := random()
	fewer := 0
	for range 500 {
		l, s := someRules(r), nearSheet(r)
		if len(l) == 0 {
			continue
		}
		was := doubted(t, l, s)
		k := r.IntN(len(l))
		wider, higher := slices.Clone(l), slices.Clone(l)
		more, _ := places.Normal(someSquares(r))
		wider[k].Region, _ = places.Union(l[k].Region, more)
		higher[k].Most += 1 + r.IntN(3)
		for _, milder := range [][]api.Rule{wider, higher, slices.Delete(slices.Clone(l), k, k+1)} {
			is := doubted(t, milder, s)
			for i := range is {
				_, none := sheets.RuleOf(milder, s.Lines[i].Name)
				if !was[i] || none != api.OK {
					t.Errorf("the line %d is doubted by milder rules", i)
				}
			}
			if len(is) < len(was) {
				fewer++
			}
		}
	}
	if fewer < 100 {
		t.Errorf("milder rules made a difference %d times", fewer)
	}
}

// P4.1 (R14 to R16): rules are not changed (R7), and doubts of the greatest rules come to an end.
func TestGreatestRules(t *testing.T) {
	l := manyRules(api.MaxRules)
	for i := range l[:20] {
		l[i].Region = manySquares(api.MaxSquares)
	}
	s := greatestSheet()
	for i := range s.Lines {
		s.Lines[i].Name = l[i%20].Name
	}
	got, e := sheets.Doubts(l, s)
	if e != api.OK || len(got) != 2*api.MaxLines || got[0] != (api.Doubt{Line: 0, Rule: 0, Kind: api.DoubtPlace}) {
		t.Errorf("Doubts of the greatest: %d, error %d", len(got), e)
	}
	if e := sheets.CheckRules(l); e != api.OK || !slices.Equal(l[0].Region, manySquares(api.MaxSquares)) {
		t.Errorf("the rules were changed")
	}
}
