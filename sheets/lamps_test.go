package sheets_test

import (
	"slices"
	"testing"

	"noctuary/api"
	"noctuary/sheets"
)

func lamp(id, power int) api.Lamp { return api.Lamp{ID: id, Power: power} }

// manyLamps returns n lamps, the last one of the last ID.
func manyLamps(n int) []api.Lamp {
	var out []api.Lamp
	for i := range n {
		out = append(out, lamp(api.MaxID-n+1+i, 1+i))
	}
	return out
}

// badLamps returns lists of lamps that are not valid.
func badLamps() map[string][]api.Lamp {
	return map[string][]api.Lamp{
		"too many":                 manyLamps(api.MaxLamps + 1),
		"nothing":                  {{}},
		"an ID 0":                  {lamp(0, 1), lamp(1, 1)},
		"an ID below 0":            {lamp(-huge-1, 1)},
		"an ID too great":          {lamp(2, 1), lamp(api.MaxID+1, 1)},
		"an ID twice":              {lamp(2, 125), lamp(2, 125)},
		"IDs not in order":         {lamp(2, 125), lamp(1, 125)},
		"a Power 0":                {lamp(2, 0)},
		"a Power below 0":          {lamp(2, 125), lamp(3, -1)},
		"a Power too great":        {lamp(2, api.MaxPower+1), lamp(3, 1)},
		"a Power that is huge":     {lamp(2, 125), lamp(3, huge)},
		"a last one without Power": append(manyLamps(api.MaxLamps)[1:], lamp(api.MaxID+1, 1)),
	}
}

// P4.1 (R1).
func TestCheckLamps(t *testing.T) {
	good := map[string][]api.Lamp{
		"none":              nil,
		"two":               lamps(),
		"as many as may be": manyLamps(api.MaxLamps),
		"the ends":          {lamp(1, api.MaxPower), lamp(api.MaxID, 1)},
	}
	for what, l := range good {
		if e := sheets.CheckLamps(l); e != api.OK {
			t.Errorf("CheckLamps of %s: error %d", what, e)
		}
	}
	for what, l := range badLamps() {
		wantError(t, "CheckLamps of "+what, nothing(sheets.CheckLamps(l)), api.ErrLamps)
		wantError(t, "PowerOf of "+what, number(sheets.PowerOf(l, 2)), api.ErrLamps)
		wantError(t, "PowerOf of another ID, of "+what, number(sheets.PowerOf(l, 999)), api.ErrLamps)
		wantError(t, "Effort of no sheets, of "+what, number(sheets.Effort(l, nil)), api.ErrLamps)
		wantError(t, "Effort of "+what, number(sheets.Effort(l, []api.Sheet{sample()})), api.ErrLamps)
		wantError(t, "Effort of too many sheets, of "+what, number(sheets.Effort(l, make([]api.Sheet, 1001))), api.ErrLamps)
	}
}

// P4.1 (R2).
func TestPowerOf(t *testing.T) {
	l := []api.Lamp{lamp(1, api.MaxPower), lamp(5, 125), lamp(api.MaxID, 1)}
	for _, x := range l {
		n, e := sheets.PowerOf(l, x.ID)
		wantSame(t, "PowerOf", n, e, x.Power)
	}
	for _, id := range []int{0, 2, 4, 6, api.MaxID - 1, api.MaxID + 1, -1, huge, -huge - 1} {
		wantError(t, "PowerOf of no lamp", number(sheets.PowerOf(l, id)), api.ErrNone)
		wantError(t, "PowerOf of no lamps", number(sheets.PowerOf(nil, id)), api.ErrNone)
	}
	many := manyLamps(api.MaxLamps)
	for _, x := range many {
		n, e := sheets.PowerOf(many, x.ID)
		wantSame(t, "PowerOf", n, e, x.Power)
	}
}

// with returns the sample with another lamp.
func with(lamp int) api.Sheet { return changed(func(s *api.Sheet) { s.Lamp = lamp }) }

// P4.1 (R18): the sum, and ErrNone for a lamp that is not there.
func TestEffort(t *testing.T) {
	wants := []struct {
		lamps []int
		want  int
	}{{nil, 0}, {[]int{2}, 125}, {[]int{9}, 15}, {[]int{2, 2}, 250}, {[]int{9, 2, 9, 9}, 170}}
	for _, x := range wants {
		var s []api.Sheet
		for _, id := range x.lamps {
			s = append(s, with(id))
		}
		n, e := sheets.Effort(lamps(), s)
		wantSame(t, "Effort", n, e, x.want)
		for i := range len(s) + 1 {
			missing := slices.Insert(slices.Clone(s), i, with(3))
			wantError(t, "Effort of a lamp that is not there", number(sheets.Effort(lamps(), missing)), api.ErrNone)
			wantError(t, "Effort of no lamps", number(sheets.Effort(nil, missing)), api.ErrNone)
		}
	}
	n, e := sheets.Effort(nil, nil)
	wantSame(t, "Effort of nothing", n, e, 0)
}

// P4.1 (R18): ErrLimit, then ErrSheet, then ErrNone.
func TestErrorsOfEffort(t *testing.T) {
	great := []api.Lamp{lamp(2, api.MaxPower)}
	full := slices.Repeat([]api.Sheet{sample()}, 1000)
	n, e := sheets.Effort(great, full)
	wantSame(t, "Effort of 1000 sheets", n, e, 1000*api.MaxPower)
	for _, x := range []api.Sheet{sample(), {}, with(3), tooManyLines()} {
		more := append(slices.Clone(full), x)
		wantError(t, "Effort of 1001 sheets", number(sheets.Effort(great, more)), api.ErrLimit)
		more[0] = api.Sheet{}
		wantError(t, "Effort of 1001 sheets, one not valid", number(sheets.Effort(great, more)), api.ErrLimit)
	}
	for _, bad := range []api.Sheet{{}, tooManyLines()} {
		wantError(t, "Effort of no lamp ahead", number(sheets.Effort(great, []api.Sheet{with(3), bad})), api.ErrSheet)
		wantError(t, "Effort of no lamp behind", number(sheets.Effort(great, []api.Sheet{bad, with(3)})), api.ErrSheet)
	}
}

// P4.7: the Effort of two lists of sheets is the sum of theirs.
func TestEffortOfTwoLists(t *testing.T) {
	r := random()
	l := manyLamps(20)
	for range 50 {
		var s []api.Sheet
		for range r.IntN(12) {
			s = append(s, with(l[r.IntN(20)].ID))
		}
		k := r.IntN(len(s) + 1)
		a, e := sheets.Effort(l, s[:k])
		if e != api.OK {
			t.Errorf("Effort: error %d", e)
		}
		b, e := sheets.Effort(l, s[k:])
		if e != api.OK {
			t.Errorf("Effort: error %d", e)
		}
		n, e := sheets.Effort(l, s)
		wantSame(t, "Effort of two lists", n, e, a+b)
	}
}
