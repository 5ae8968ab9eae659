package atlas_test

import (
	"bytes"
	"math/rand/v2"
	"slices"
	"testing"

	"noctuary/answers"
	"noctuary/api"
	"noctuary/atlas"
	"noctuary/dots"
	"noctuary/flows"
	"noctuary/register"
)

// P10.2: Check finds nothing in what Build returns, nor in what Decode makes of its encoding; each call returns the same.
func TestAtlasesAreRight(t *testing.T) {
	r := random()
	for range 200 {
		b := someBase(r)
		reg := someRegister(r, b)
		old := []api.DotMap{someMap(r, b), someMap(r, b)}
		x := mustBuild(t, b, reg, old)
		wantFaults(t, "what Build returns", x, old)
		l, e := atlas.Encode(x)
		y, f := atlas.Decode(l)
		if e != api.OK || f != api.OK || !same(x, y) {
			t.Fatalf("%v is encoded (error %d) and decoded (error %d) as %v", x, e, f, y)
		}
		wantFaults(t, "what Decode returns", y, old)
		again, _ := atlas.Encode(mustBuild(t, b, reg, old))
		if !bytes.Equal(l, again) {
			t.Errorf("Build returns two different atlases")
		}
	}
}

// wantTrue checks that an atlas in which Check finds nothing tells just what all readings of its case tell.
func wantTrue(t *testing.T, x api.Atlas) {
	t.Helper()
	k := claimsOf(x.Case)
	if x.Trouble == api.ErrClash {
		for range k.readings() {
			t.Fatalf("an atlas tells a clash of a case with a reading: %v", x)
		}
		return
	}
	l := lastNames(x.Case.Book)
	if len(x.Answers) != len(l) {
		t.Fatalf("%d answers to %d names", len(x.Answers), len(l))
	}
	for i, name := range l {
		right, possible := k.answer(name)
		if !possible {
			t.Fatalf("an atlas answers about a case without a reading: %v", x)
		}
		wantSame(t, "an answer", plain(x.Answers[i]), right)
		wantProof(t, x.Case, x.Answers[i])
	}
}

// P10.3: the atlases that Build returns.
func TestAtlasesAlone(t *testing.T) {
	r := random()
	clashes := 0
	for range 250 {
		b := someBase(r)
		reg := someRegister(r, b)
		x := mustBuild(t, b, reg, nil)
		wantTrue(t, x)
		if x.Trouble == api.ErrClash {
			clashes++
		}
	}
	if clashes < 10 || clashes > 200 {
		t.Errorf("%d of 250 are clashes", clashes)
	}
}

// P10.3: atlases that anybody made: with any number of one changed. Those in which Check finds nothing tell the truth.
func TestAtlasesOfOthers(t *testing.T) {
	r := random()
	fine, wrong := 0, 0
	for range 60 {
		b := someBase(r)
		x := mustBuild(t, b, someRegister(r, b), nil)
		l := flat(x)
		for range 60 {
			i := r.IntN(len(l))
			n := l[i] + pick(r, -2, -1, 1, 2)
			y, e := atlas.Decode(numbersOf(changed(l, i, n)))
			if e != api.OK {
				continue
			}
			if len(atlas.Check(y, nil)) > 0 {
				wrong++
				continue
			}
			fine++
			wantTrue(t, y)
		}
	}
	if fine < 50 || wrong < 500 {
		t.Errorf("Check finds nothing in %d atlases, and something in %d", fine, wrong)
	}
}

// P10.5: atlases one after the other, with the maps of all before, with or without their Regions.
func TestLicencesAreKept(t *testing.T) {
	r := random()
	count := 0
	for range 300 {
		b := someBase(r)
		withRegions := r.IntN(2) == 0
		var all []api.DotMap
		for range 4 {
			x := mustBuild(t, b, someRegister(r, b), all)
			wantFaults(t, "an atlas behind others", x, all)
			for _, m := range x.Maps {
				count++
				if !wantKept(t, b, x, append(slices.Clone(all), x.Maps...), m.Name) {
					return
				}
			}
			all = append(all, x.Maps...)
			for _, name := range numbers(6) {
				licence, _ := dots.LicenceOf(b.Licences, name)
				of, dot, e := dots.Audit(b.County, licence, all)
				wantError(t, "Audit of all maps", []int{of, dot}[:of+dot], e, api.ErrNone)
			}
			if !withRegions {
				for i := range all {
					all[i].Region = nil
				}
			}
		}
	}
	if count < 300 {
		t.Errorf("only %d maps", count)
	}
}

// wantKept checks all maps of a name of which an atlas has a map.
func wantKept(t *testing.T, b api.Base, x api.Atlas, all []api.DotMap, name int) bool {
	t.Helper()
	licence, _ := dots.LicenceOf(b.Licences, name)
	parts, e := dots.Parts(b.County, all, name)
	if e != api.OK || len(parts) == 0 {
		t.Fatalf("Parts: %v, error %d", parts, e)
	}
	for _, part := range parts {
		safe, e := dots.Safe(b.County, licence, part)
		if e != api.OK || !safe {
			t.Errorf("%v of %d is told by %v, error %d", part, name, all, e)
			return false
		}
	}
	sure, _ := atlas.SureOf(x, name)
	holds, e := dots.Holds(b.County, all, name, smallSquares(sure))
	if e != api.OK || !holds {
		t.Errorf("%v is no world of %v, error %d", sure, all, e)
	}
	return e == api.OK && holds
}

// stillBelongs reports whether no record of a case belongs to another series than in an earlier one (names that it cannot have any more do not matter).
func stillBelongs(now, old api.Case) bool {
	before := claimsOf(old).series
	for i, l := range claimsOf(now).series {
		candidates, _ := answers.Candidates(now, i)
		for _, name := range candidates {
			a, is := l[name]
			b, was := before[i][name]
			if is != was || a != b {
				return false
			}
		}
	}
	return true
}

// P10.6: with a further voucher, or with fewer names, no count becomes wider.
func TestMoreIsKnown(t *testing.T) {
	r := random()
	count := 0
	for range 1500 {
		b := someBase(r)
		reg := someRegister(r, b)
		if len(reg.Records) == 0 {
			continue
		}
		x := mustBuild(t, b, reg, nil)
		more := reg
		more.Records = slices.Clone(reg.Records)
		i := r.IntN(len(more.Records))
		learn(r, &more.Records[i])
		y := mustBuild(t, b, more, nil)
		if x.Trouble != api.OK || y.Trouble != api.OK || !stillBelongs(y.Case, x.Case) {
			continue
		}
		count++
		for k, a := range x.Answers {
			if got := y.Answers[k].Count; got.Lo < a.Count.Lo || got.Hi > a.Count.Hi {
				t.Errorf("the count of %d is %v, and was %v", a.Name, got, a.Count)
			}
		}
	}
	if count < 300 {
		t.Errorf("only %d cases", count)
	}
}

// learn adds a voucher to a record, or takes a name away.
func learn(r *rand.Rand, x *api.Record) {
	if len(x.Names) > 1 && r.IntN(2) == 0 {
		x.Names = slices.Delete(slices.Clone(x.Names), 0, 1)
		return
	}
	x.Seen = append(slices.Clone(x.Seen), []int{1 + r.IntN(3)})
}

// P10.1 (A3), P10.2: the answers of an atlas are the ends of flows, whatever its size.
func TestEndsOfCounts(t *testing.T) {
	r := random()
	for range 100 {
		b := someBase(r)
		reg := someRegister(r, b)
		c, possible := caseOf(b, reg)
		if !possible {
			continue
		}
		n, _ := answers.NetOf(c)
		x := mustBuild(t, b, reg, nil)
		for _, a := range x.Answers {
			s, e := flows.Span(n, arcOf(n, c, a.Name))
			want(t, "the span of the arc of a name", s, e, a.Count)
		}
		again, _ := register.CaseOf(b, reg)
		wantSame(t, "the case", x.Case, again)
	}
}

// P0.2: a split of a name changes no answer about any other one, as far as its specimens cannot be told apart and were not worked through.
func TestSplit(t *testing.T) {
	r := random()
	count := 0
	for range 200 {
		b := someBase(r)
		b.Matrix.Rows = nil
		reg := someRegister(r, b)
		reg.Series = nil
		c, possible := caseOf(b, reg)
		if !possible {
			continue
		}
		l := lastNames(b.Book)
		gone := pick(r, l...)
		later := reg
		later.Book.Changes = append(slices.Clone(reg.Book.Changes), api.Change{Year: 9, From: []int{gone}, To: []int{11, 12}})
		x, y := mustBuild(t, b, reg, nil), mustBuild(t, b, later, nil)
		differ, e := atlas.Compare(x, y)
		want(t, "the names that differ", differ, e, []int{gone, 11, 12})
		for _, name := range []int{11, 12} {
			s, e := atlas.CountOf(y, name)
			old, _ := answers.Count(c, gone)
			want(t, "the count of a part", s, e, span(0, old.Hi))
		}
		count++
	}
	if count < 100 {
		t.Errorf("only %d cases", count)
	}
}

// P0.6: what was known on a day and at a time is what those notes alone tell; and a note that is withdrawn is as if it had not been.
func TestWhatWasKnown(t *testing.T) {
	r := random()
	for range 150 {
		x := someNature(r)
		var notes []api.Note
		for i := range 1 + r.IntN(4) {
			e, about := x.someEvening(r, 10*i, true)
			ref := at(len(notes) + 1)
			for _, n := range append([]api.Note{{Kind: api.NoteSheet, Sheet: e.sheet}}, about...) {
				if n.Kind != api.NoteSheet {
					n.Ref = ref
				}
				n.House, n.Num, n.Clock, n.Day = 1, len(notes)+1, len(notes)+1, r.IntN(5)
				notes = append(notes, n)
			}
		}
		gone := r.IntN(len(notes))
		last := len(notes) + 1
		all := append(slices.Clone(notes), api.Note{House: 1, Num: last, Clock: last, Kind: api.NoteWithdraw, Ref: at(gone + 1)})
		reg, _ := register.Fold(x.base, all)
		left, _ := register.Fold(x.base, slices.Delete(slices.Clone(notes), gone, gone+1))
		wantSameAnswers(t, x.base, reg, left)
		day, clock := r.IntN(5), r.IntN(last)
		reg, _ = register.AsOf(x.base, notes, day, clock)
		left, _ = register.Fold(x.base, slices.DeleteFunc(slices.Clone(notes), func(n api.Note) bool { return n.Day > day || n.Clock > clock }))
		wantSameAnswers(t, x.base, reg, left)
	}
}

// wantSameAnswers checks that the atlases of two registers tell the same.
func wantSameAnswers(t *testing.T, b api.Base, a, other api.Register) {
	t.Helper()
	x, y := mustBuild(t, b, a, nil), mustBuild(t, b, other, nil)
	x.Cut, y.Cut = nil, nil
	x.Answers, y.Answers = plainOf(x), plainOf(y)
	wantSame(t, "the atlas", x, y)
}
