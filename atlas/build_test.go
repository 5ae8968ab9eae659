package atlas_test

import (
	"slices"
	"testing"

	"noctuary/answers"
	"noctuary/api"
	"noctuary/atlas"
	"noctuary/flows"
	"noctuary/register"
)

// arcOf returns the arc of a name of a case.
func arcOf(n api.Net, c api.Case, name int) []int {
	l := lastNames(c.Book)
	return []int{len(n.Arcs) - len(l) + slices.Index(l, name)}
}

// wantProof checks that shares and heights prove the count of an answer.
func wantProof(t *testing.T, c api.Case, x api.Answer) {
	t.Helper()
	n, _ := answers.NetOf(c)
	arc := arcOf(n, c, x.Name)
	if flows.Keeps(n, x.Least) != api.OK || flows.Keeps(n, x.Most) != api.OK {
		t.Fatalf("the shares of %d are none", x.Name)
	}
	low, e := flows.CheckLeast(n, arc, x.LowCut)
	high, f := flows.CheckMost(n, arc, x.HighCut)
	if e != api.OK || f != api.OK || span(low, high) != x.Count {
		t.Errorf("the heights of %d prove %d to %d (errors %d, %d); its count: %v", x.Name, low, high, e, f, x.Count)
	}
	if s := span(x.Least[arc[0]], x.Most[arc[0]]); s != x.Count {
		t.Errorf("the shares of %d: %v; its count: %v", x.Name, s, x.Count)
	}
}

// wantAtlas checks an atlas of a possible case against what the other functions tell.
func wantAtlas(t *testing.T, x api.Atlas, b api.Base, r api.Register, old []api.DotMap) {
	t.Helper()
	c, _ := register.CaseOf(b, r)
	right := api.Atlas{Base: b, Case: c}
	for _, name := range lastNames(c.Book) {
		a, _ := atlas.AnswerOf(b, r, name)
		right.Answers = append(right.Answers, a)
	}
	right.Maps, right.Held, _ = atlas.Maps(b, r, old)
	for _, a := range x.Answers {
		wantProof(t, c, a)
	}
	x.Answers = plainOf(x)
	wantSame(t, "Build", x, right)
}

// P10.1 (A4): the atlas of the sample.
func TestBuild(t *testing.T) {
	x := sampleAtlas(t)
	wantAtlas(t, x, sampleBase(), sampleRegister(), nil)
	wantSame(t, "the answers", plainOf(x), sampleAnswers())
	wantSame(t, "the maps", x.Maps, sampleMaps())
	wantSame(t, "what is held", x.Held, []int{5, 9})
	old := []api.DotMap{{Name: 3, Region: sampleBase().County}}
	x = mustBuild(t, sampleBase(), sampleRegister(), old)
	wantAtlas(t, x, sampleBase(), sampleRegister(), old)
	wantSame(t, "what is held", x.Held, []int{3, 5, 9})
}

// P10.1 (A4): the atlas of a case that is not possible.
func TestBuildOfClash(t *testing.T) {
	for what, c := range map[string]struct {
		change func(r *api.Register)
		clash  []int
	}{
		"one record":  {func(r *api.Register) { r.Catches[0].Total = span(0, 3) }, []int{0}},
		"two records": {func(r *api.Register) { r.Catches[1].Total = span(0, 2) }, []int{1, 2}},
		"a voucher":   {func(r *api.Register) { r.Records[2].Seen = append(r.Records[2].Seen, []int{2, 7}) }, []int{2}},
		"twelve records": {func(r *api.Register) {
			r.Catches[3].Total = span(0, 7)
			for line := range 7 {
				r.Records = append(r.Records, api.Record{Sheet: at(4), Line: line + 1, Said: 9, Count: span(1, 1)})
			}
		}, []int{4, 5, 6, 7, 8, 9, 10, 11}},
		"thirteen records": {func(r *api.Register) {
			r.Catches[3].Total = span(0, 8)
			for line := range 8 {
				r.Records = append(r.Records, api.Record{Sheet: at(4), Line: line + 1, Said: 9, Count: span(1, 1)})
			}
		}, nil},
		"a series alone": {func(r *api.Register) { r.Series[0].Count = span(3, 9) }, nil},
	} {
		r := changedRegister(c.change)
		x := mustBuild(t, sampleBase(), r, []api.DotMap{{Name: 3}})
		asked, _ := register.CaseOf(sampleBase(), r)
		n, _ := answers.NetOf(asked)
		if _, e := flows.CheckCut(n, x.Cut); e != api.OK {
			t.Errorf("with %s: the cut %v proves nothing", what, x.Cut)
		}
		right := api.Atlas{Base: sampleBase(), Case: asked, Clash: c.clash, Cut: x.Cut, Trouble: api.ErrClash}
		wantSame(t, "Build with "+what, x, right)
		wantFaults(t, "an atlas with "+what, x, nil)
	}
}

// P10.1 (A4): the errors of old maps, also if the case is not possible.
func TestErrorsOfBuild(t *testing.T) {
	full := slices.Repeat([]api.DotMap{{Name: 3}}, 200)
	for _, r := range []api.Register{sampleRegister(), clashRegister()} {
		x, e := atlas.Build(sampleBase(), r, make([]api.DotMap, 201))
		wantError(t, "Build with too many wrong maps", x, e, api.ErrLimit)
		for i, m := range wrongMaps() {
			x, e = atlas.Build(sampleBase(), r, []api.DotMap{{Name: 3}, m})
			wantError(t, "Build with the wrong map "+text(i), x, e, api.ErrMap)
		}
	}
	x, e := atlas.Build(sampleBase(), sampleRegister(), full)
	wantError(t, "Build with 200 maps of one of the names", x, e, api.ErrLimit)
	x = mustBuild(t, sampleBase(), clashRegister(), full)
	wantSame(t, "Trouble", x.Trouble, api.ErrClash)
}

// P10.1 (A4): Build is what the other functions tell, with any old maps.
func TestBuildByWords(t *testing.T) {
	r := random()
	possible := 0
	for range 300 {
		b := someBase(r)
		reg := someRegister(r, b)
		old := []api.DotMap{someMap(r, b), someMap(r, b)}
		x := mustBuild(t, b, reg, old)
		if _, is := caseOf(b, reg); !is {
			wantSame(t, "Trouble", x.Trouble, api.ErrClash)
			continue
		}
		possible++
		wantAtlas(t, x, b, reg, old)
	}
	if possible < 100 || possible > 290 {
		t.Errorf("%d cases of 300 are possible", possible)
	}
}
