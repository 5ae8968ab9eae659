package atlas_test

import (
	"slices"
	"testing"

	"noctuary/api"
	"noctuary/atlas"
)

func fault(kind, index int) api.Fault { return api.Fault{Kind: kind, Index: index} }

// changes are what may be wrong with an atlas, each under its own words.
type changes map[string]func(x *api.Atlas)

// wantEach checks the faults that Check finds after each of some changes of the sample's atlas alone.
func wantEach(t *testing.T, l changes, right ...api.Fault) {
	t.Helper()
	for what, change := range l {
		x := sampleAtlas(t)
		change(&x)
		wantFaults(t, "the sample with "+what, x, nil, right...)
	}
}

// P10.1 (A5): the first step.
func TestFaultsOfBase(t *testing.T) {
	for part, b := range wrongBases() {
		x := sampleAtlas(t)
		x.Base = b
		wantFaults(t, "a wrong "+part, x, nil, fault(api.FaultBase, 0))
	}
	for _, trouble := range []api.Errno{api.ErrArg, api.ErrBase, -1, 70, 72, api.Errno(huge)} {
		wantEach(t, changes{"some trouble": func(x *api.Atlas) { x.Trouble = trouble }}, fault(api.FaultBase, 0))
	}
	x := sampleAtlas(t)
	wantFaults(t, "the sample with too many old maps", x, slices.Repeat([]api.DotMap{{Name: 77}}, 201), fault(api.FaultBase, 0))
	wantFaults(t, "the sample with many old maps", x, slices.Repeat([]api.DotMap{{Name: 77}}, 200))
	for _, m := range wrongMaps() {
		wantFaults(t, "the sample with a wrong old map", x, []api.DotMap{{Name: 77}, m}, fault(api.FaultBase, 0))
		y := mustBuild(t, sampleBase(), clashRegister(), nil)
		wantFaults(t, "a clash with a wrong old map", y, []api.DotMap{m}, fault(api.FaultBase, 0))
	}
	wantFaults(t, "no atlas", api.Atlas{}, nil, fault(api.FaultBase, 0))
}

// P10.1 (A5): the second step.
func TestFaultsOfCase(t *testing.T) {
	wantEach(t, changes{
		"no case":             func(x *api.Atlas) { x.Case = api.Case{} },
		"a wrong record":      func(x *api.Atlas) { x.Case.Records[0].Said = 3 },
		"a wrong catch":       func(x *api.Atlas) { x.Case.Catches[0].Lamp = 4 },
		"a wrong series":      func(x *api.Atlas) { x.Case.Series[0].Name = 77 },
		"other states":        func(x *api.Atlas) { x.Case.Matrix.States[1] = 4 },
		"another row":         func(x *api.Atlas) { x.Case.Matrix.Rows[0].May[1] = 6 },
		"another row's name":  func(x *api.Atlas) { x.Case.Matrix.Rows[1].Name = 5 },
		"a row less":          func(x *api.Atlas) { x.Case.Matrix.Rows = x.Case.Matrix.Rows[:1] },
		"another rule":        func(x *api.Atlas) { x.Case.Rules[0].Most = 51 },
		"another rule's name": func(x *api.Atlas) { x.Case.Rules[0].Name = 1 },
		"another season":      func(x *api.Atlas) { x.Case.Rules[0].Season.To = 931 },
		"another region":      func(x *api.Atlas) { x.Case.Rules[0].Region[1].Level = 3 },
		"no rules":            func(x *api.Atlas) { x.Case.Rules = nil },
		"a rule of the base":  func(x *api.Atlas) { x.Base.Rules = x.Base.Rules[1:] },
		"another lamp":        func(x *api.Atlas) { x.Case.Lamps[1].Power = 16 },
		"a lamp more":         func(x *api.Atlas) { x.Case.Lamps = append(x.Case.Lamps, api.Lamp{ID: 9, Power: 1}) },
		"another first name":  func(x *api.Atlas) { x.Base.Book.First[3] = 10 },
		"a first name less":   func(x *api.Atlas) { x.Base.Book.First = x.Base.Book.First[:3] },
		"a year of a change":  func(x *api.Atlas) { x.Base.Book.Changes[0].Year = 6 },
		"a From of a change":  func(x *api.Atlas) { x.Base.Book.Changes[0].From = []int{1, 2} },
		"a To of a change":    func(x *api.Atlas) { x.Base.Book.Changes[0].To = []int{3} },
		"a further change of the base": func(x *api.Atlas) {
			x.Base.Book.Changes = append(x.Base.Book.Changes, api.Change{Year: 9, From: []int{9}, To: []int{10}})
		},
		"another change ahead": func(x *api.Atlas) {
			l := x.Case.Book.Changes
			x.Case.Book.Changes = append([]api.Change{{Year: 1, From: []int{9}, To: []int{9}}}, l...)
		},
	}, fault(api.FaultCase, 0))
	many := sampleAtlas(t)
	r := changedRegister(tooMany)
	many.Base.Book, many.Case.Book = r.Book, r.Book
	many.Case.Catches, many.Case.Records, many.Case.Series = r.Catches, r.Records, nil
	wantFaults(t, "too many arcs", many, nil, fault(api.FaultCase, 0))
}

// P10.1 (A5): a book with further changes behind those of the base is right.
func TestLaterBooks(t *testing.T) {
	r := changedRegister(func(r *api.Register) {
		r.Book.Changes = append(r.Book.Changes, api.Change{Year: 9, From: []int{9}, To: []int{10}})
	})
	x := mustBuild(t, sampleBase(), r, nil)
	wantFaults(t, "a later book", x, nil)
	x.Base.Book.Changes = nil
	wantFaults(t, "a much later book", x, nil)
}

// P10.1 (A5): the third step, for an atlas that tells a clash.
func TestFaultsOfClash(t *testing.T) {
	for what, change := range (changes{
		"no set":            func(x *api.Atlas) { x.Clash = nil },
		"another set":       func(x *api.Atlas) { x.Clash = []int{1} },
		"a greater set":     func(x *api.Atlas) { x.Clash = []int{0, 1} },
		"no cut":            func(x *api.Atlas) { x.Cut = nil },
		"the hub alone":     func(x *api.Atlas) { x.Cut = []int{0} },
		"a cut of no nodes": func(x *api.Atlas) { x.Cut = []int{0, 99} },
		"a cut in disorder": func(x *api.Atlas) { x.Cut = append(x.Cut, 0) },
		"an answer":         func(x *api.Atlas) { x.Answers = []api.Answer{{}} },
		"a map":             func(x *api.Atlas) { x.Maps = []api.DotMap{{}} },
		"a name held":       func(x *api.Atlas) { x.Held = []int{5} },
		"a total that does": func(x *api.Atlas) { x.Case.Catches[0].Total = span(0, 4) },
	}) {
		x := mustBuild(t, sampleBase(), clashRegister(), nil)
		wantFaults(t, "a clash", x, nil)
		change(&x)
		wantFaults(t, "a clash with "+what, x, nil, fault(api.FaultClash, 0))
	}
	wantEach(t, changes{"a clash alone": func(x *api.Atlas) {
		x.Answers, x.Maps, x.Held, x.Trouble = nil, nil, nil, api.ErrClash
	}}, fault(api.FaultClash, 0))
	x := mustBuild(t, sampleBase(), clashRegister(), nil)
	x.Cut = []int{1} // the first catch: at most 3 enter, and at least 4 leave
	wantFaults(t, "a clash with any cut", x, nil)
	x.Cut = []int{1, 5}
	wantFaults(t, "a clash with a cut that proves nothing", x, nil, fault(api.FaultClash, 0))
}

// P10.1 (A5): the third step, for an atlas that tells none.
func TestFaultsOfPeace(t *testing.T) {
	wantEach(t, changes{
		"a set": func(x *api.Atlas) { x.Clash = []int{0} },
		"a cut": func(x *api.Atlas) { x.Cut = []int{0} },
		"a case that is not possible": func(x *api.Atlas) {
			x.Case.Catches[0].Total = span(0, 3)
			x.Answers = nil
		},
	}, fault(api.FaultClash, 1))
}

// P10.1 (A5): the fourth step.
func TestFaultsOfAnswers(t *testing.T) {
	for i := range sampleNames() {
		wantEach(t, changes{
			"another name":          func(x *api.Atlas) { x.Answers[i].Name++ },
			"a lower count":         func(x *api.Atlas) { x.Answers[i].Count.Lo-- },
			"a higher count":        func(x *api.Atlas) { x.Answers[i].Count.Hi++ },
			"a narrower count":      func(x *api.Atlas) { x.Answers[i].Count.Lo++ },
			"another narrower one":  func(x *api.Atlas) { x.Answers[i].Count.Hi-- },
			"no least shares":       func(x *api.Atlas) { x.Answers[i].Least = nil },
			"no most shares":        func(x *api.Atlas) { x.Answers[i].Most = nil },
			"wrong least shares":    func(x *api.Atlas) { x.Answers[i].Least[0]++ },
			"wrong most shares":     func(x *api.Atlas) { x.Answers[i].Most[0]++ },
			"least shares too long": func(x *api.Atlas) { x.Answers[i].Least = append(x.Answers[i].Least, 0) },
			"no low heights":        func(x *api.Atlas) { x.Answers[i].LowCut = nil },
			"no high heights":       func(x *api.Atlas) { x.Answers[i].HighCut = nil },
			"low heights below":     func(x *api.Atlas) { x.Answers[i].LowCut[0] = -1 },
			"high heights above":    func(x *api.Atlas) { x.Answers[i].HighCut[1] = len(x.Answers[i].HighCut) + 1 },
			"an earlier first":      func(x *api.Atlas) { x.Answers[i].First.Lo-- },
			"another first":         func(x *api.Atlas) { x.Answers[i].First.Hi++ },
			"a last":                func(x *api.Atlas) { x.Answers[i].Last.Lo-- },
			"another last":          func(x *api.Atlas) { x.Answers[i].Last.Hi++ },
			"a further sure one":    func(x *api.Atlas) { x.Answers[i].Sure = append(x.Answers[i].Sure, of(1, 400, 400)) },
			"other sure ones":       func(x *api.Atlas) { x.Answers[i].Sure = []api.Square{square(8, 8)} },
			"a further may":         func(x *api.Atlas) { x.Answers[i].May = append(x.Answers[i].May, of(1, 400, 400)) },
			"no may":                func(x *api.Atlas) { x.Answers[i].May = nil },
		}, fault(api.FaultAnswer, i))
	}
	wantEach(t, changes{"two wrong ones": func(x *api.Atlas) { x.Answers[3].First.Lo, x.Answers[1].May = 3, nil }}, fault(api.FaultAnswer, 1), fault(api.FaultAnswer, 3))
	wantEach(t, changes{"two that changed places": func(x *api.Atlas) { x.Answers[3], x.Answers[4] = x.Answers[4], x.Answers[3] }}, fault(api.FaultAnswer, 3), fault(api.FaultAnswer, 4))
	wantEach(t, changes{"shares at the other end": func(x *api.Atlas) { x.Answers[1].Least = x.Answers[1].Most }}, fault(api.FaultAnswer, 1))
	wantEach(t, changes{"heights that prove less": func(x *api.Atlas) { clear(x.Answers[1].LowCut) }}, fault(api.FaultAnswer, 1))
}

// P10.1 (A5): with too few answers, or too many, nothing else is told of them.
func TestFaultsOfAnswersMissing(t *testing.T) {
	for n := range 5 {
		wantEach(t, changes{"answers missing": func(x *api.Atlas) { x.Answers = x.Answers[:n]; clear(x.Answers) }}, fault(api.FaultAnswer, n))
	}
	wantEach(t, changes{"a further answer": func(x *api.Atlas) { x.Answers = append(x.Answers, x.Answers[0]); clear(x.Answers) }}, fault(api.FaultAnswer, 5))
}

// P10.1 (A5): shares and heights may be any that are right.
func TestAnyProofs(t *testing.T) {
	wantEach(t, changes{
		"other shares": func(x *api.Atlas) {
			x.Answers[4].Least, x.Answers[4].Most = x.Answers[1].Most, x.Answers[2].Most
			x.Answers[0].Least = x.Answers[3].Most
		},
		"lifted heights": func(x *api.Atlas) {
			for _, a := range x.Answers {
				for i := range a.LowCut {
					a.LowCut[i]++
					a.HighCut[i]++
				}
			}
		},
	})
}

// P10.1 (A5): the fifth step.
func TestFaultsOfMaps(t *testing.T) {
	wantEach(t, changes{
		"no maps":            func(x *api.Atlas) { x.Maps = nil },
		"a map less":         func(x *api.Atlas) { x.Maps = x.Maps[:1] },
		"a map more":         func(x *api.Atlas) { x.Maps = append(x.Maps, x.Maps[1]) },
		"a finer dot":        func(x *api.Atlas) { x.Maps[0].Dots[0] = square(2, 3) },
		"a coarser dot":      func(x *api.Atlas) { x.Maps[1].Dots[0] = of(1, 1, 1) },
		"no dots":            func(x *api.Atlas) { x.Maps[1].Dots = nil },
		"no region":          func(x *api.Atlas) { x.Maps[1].Region = nil },
		"another region":     func(x *api.Atlas) { x.Maps[1].Region[0].X = 8 },
		"another map's name": func(x *api.Atlas) { x.Maps[1].Name = 4 },
		"maps in disorder":   func(x *api.Atlas) { slices.Reverse(x.Maps) },
		"none held":          func(x *api.Atlas) { x.Held = nil },
		"one less held":      func(x *api.Atlas) { x.Held = x.Held[:1] },
		"one more held":      func(x *api.Atlas) { x.Held = append(x.Held, 10) },
		"another one held":   func(x *api.Atlas) { x.Held[1] = 8 },
		"another licence":    func(x *api.Atlas) { x.Base.Licences[0].Level = 2 },
	}, fault(api.FaultMap, 0))
	old := []api.DotMap{{Name: 3, Region: sampleBase().County}}
	wantFaults(t, "the sample with another old map", sampleAtlas(t), old, fault(api.FaultMap, 0))
	wantFaults(t, "the sample with too many maps of a name", sampleAtlas(t), slices.Repeat([]api.DotMap{{Name: 3}}, 200), fault(api.FaultMap, 0))
	x := mustBuild(t, sampleBase(), sampleRegister(), old)
	wantFaults(t, "an atlas with an old map", x, old)
	wantFaults(t, "an atlas without its old map", x, nil, fault(api.FaultMap, 0))
}

// P10.1 (A5): as soon as a step has found something, no further one follows.
func TestStepsInOrder(t *testing.T) {
	x := sampleAtlas(t)
	for _, step := range []struct {
		change func(x *api.Atlas)
		right  api.Fault
	}{
		{func(x *api.Atlas) { x.Held = nil }, fault(api.FaultMap, 0)},
		{func(x *api.Atlas) { x.Answers[3].Name = 0 }, fault(api.FaultAnswer, 3)},
		{func(x *api.Atlas) { x.Cut = []int{1} }, fault(api.FaultClash, 1)},
		{func(x *api.Atlas) { x.Case.Lamps[0].Power = 1 }, fault(api.FaultCase, 0)},
		{func(x *api.Atlas) { x.Base.Houses = 0 }, fault(api.FaultBase, 0)},
	} {
		step.change(&x)
		wantFaults(t, "an atlas with more and more faults", x, nil, step.right)
	}
	y := mustBuild(t, sampleBase(), clashRegister(), nil)
	y.Clash = nil
	wantFaults(t, "a clash", y, nil, fault(api.FaultClash, 0))
	y.Case.Lamps[0].Power = 1
	wantFaults(t, "a clash", y, nil, fault(api.FaultCase, 0))
	y.Base.Houses = 0
	wantFaults(t, "a clash", y, nil, fault(api.FaultBase, 0))
}

// R1: an atlas may have any form. What Check finds in the greatest numbers is told, and nothing else happens.
func TestCheckOfAnyForm(t *testing.T) {
	x := sampleAtlas(t)
	l := flat(x)
	for i := range l {
		for _, n := range []int{1<<62 - 1, -1 << 62, -1, 0, l[i] + 1} {
			y, e := atlas.Decode(numbersOf(changed(l, i, n)))
			if e == api.OK {
				atlas.Check(y, x.Maps)
			}
		}
	}
}
