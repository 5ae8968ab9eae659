package register_test

import (
	"slices"
	"testing"

	"noctuary/api"
	"noctuary/register"
)

// licences returns n licences.
func licences(n int) []api.Licence {
	var l []api.Licence
	for i := range n {
		l = append(l, api.Licence{Name: i + 1, Least: 1})
	}
	return l
}

// bookChanges returns a book with n changes.
func bookChanges(n int) api.NameBook {
	return api.NameBook{First: []int{1}, Changes: slices.Repeat([]api.Change{{From: []int{1}, To: []int{1}}}, n)}
}

func goodBases() map[string]api.Base {
	set := changedBase
	return map[string]api.Base{
		"the sample":        base(),
		"the least":         {Book: api.NameBook{First: []int{1}}, Matrix: api.Matrix{States: []int{2}}, Houses: 1},
		"the most houses":   set(func(b *api.Base) { b.Houses = api.MaxHouses }),
		"no county":         set(func(b *api.Base) { b.County = nil }),
		"the whole map":     set(func(b *api.Base) { b.County = []api.Square{{Level: 10}} }),
		"empty lists":       set(func(b *api.Base) { b.County, b.Licences, b.Rules = []api.Square{}, []api.Licence{}, []api.Rule{} }),
		"a least licence":   set(func(b *api.Base) { b.Licences = []api.Licence{{Name: 1, Least: 1}} }),
		"a great licence":   set(func(b *api.Base) { b.Licences = []api.Licence{{Name: api.MaxID, Level: 10, Least: 1 << 20}} }),
		"the most licences": set(func(b *api.Base) { b.Licences = licences(api.MaxNames) }),
		"the most changes":  set(func(b *api.Base) { b.Book = bookChanges(api.MaxChanges) }),
	}
}

func badBases() map[string]api.Base {
	set := changedBase
	licence := func(l ...api.Licence) api.Base { return set(func(b *api.Base) { b.Licences = l }) }
	return map[string]api.Base{
		"nothing":                 {},
		"no book":                 set(func(b *api.Base) { b.Book = api.NameBook{} }),
		"a book out of order":     set(func(b *api.Base) { b.Book.First = []int{2, 1, 3} }),
		"a change of no name":     set(func(b *api.Base) { b.Book.Changes[1].From = []int{7} }),
		"too many changes":        set(func(b *api.Base) { b.Book = bookChanges(api.MaxChanges + 1) }),
		"no characters":           set(func(b *api.Base) { b.Matrix.States = nil }),
		"a bad row":               set(func(b *api.Base) { b.Matrix.Rows[0].May[0] = 4 }),
		"a rule's season":         set(func(b *api.Base) { b.Rules[1].Season.From = 0 }),
		"a rule's region":         set(func(b *api.Base) { b.Rules[0].Region[0].Level = 11 }),
		"rules out of order":      set(func(b *api.Base) { b.Rules[0].Name = 2 }),
		"a lamp without power":    set(func(b *api.Base) { b.Lamps[1].Power = 0 }),
		"lamps out of order":      set(func(b *api.Base) { b.Lamps[1].ID = 1 }),
		"a county out of order":   set(func(b *api.Base) { slices.Reverse(b.County) }),
		"a county of children":    set(func(b *api.Base) { b.County = []api.Square{{}, {X: 1}, {Y: 1}, {X: 1, Y: 1}} }),
		"a county beyond the map": set(func(b *api.Base) { b.County = []api.Square{{X: 1024}} }),
		"no house":                set(func(b *api.Base) { b.Houses = 0 }),
		"less than no house":      set(func(b *api.Base) { b.Houses = -1 }),
		"too many houses":         set(func(b *api.Base) { b.Houses = api.MaxHouses + 1 }),
		"too many licences":       licence(licences(api.MaxNames + 1)...),
		"a licence of 0":          licence(api.Licence{Name: 0, Least: 1}),
		"a licence of -1":         licence(api.Licence{Name: -1, Least: 1}),
		"a licence of no ID":      licence(api.Licence{Name: api.MaxID + 1, Least: 1}),
		"a licence's level -1":    licence(api.Licence{Name: 1, Level: -1, Least: 1}),
		"a licence's level 11":    licence(api.Licence{Name: 1, Level: 11, Least: 1}),
		"a licence of nothing":    licence(api.Licence{Name: 1, Level: 1, Least: 0}),
		"a licence of too much":   licence(api.Licence{Name: 1, Level: 1, Least: 1<<20 + 1}),
		"a bad last licence":      licence(api.Licence{Name: 1, Least: 1}, api.Licence{Name: 2, Level: 11, Least: 1}),
		"two licences of a name":  licence(api.Licence{Name: 3, Least: 1}, api.Licence{Name: 3, Least: 1}),
		"licences out of order":   licence(api.Licence{Name: 3, Least: 1}, api.Licence{Name: 2, Least: 1}),
		"nothing but a book":      {Book: base().Book},
	}
}

// P6.1 (H1).
func TestCheckBase(t *testing.T) {
	for what, b := range goodBases() {
		if e := register.CheckBase(b); e != api.OK {
			t.Errorf("CheckBase of %s: error %d", what, e)
		}
	}
	for what, b := range badBases() {
		if e := register.CheckBase(b); e != api.ErrBase {
			t.Errorf("CheckBase of %s: error %d", what, e)
		}
	}
}

// P6.1: ErrBase comes first in all functions with a base, also of what is wrong otherwise.
func TestErrBase(t *testing.T) {
	many := api.Register{Records: make([]api.Record, api.MaxRecords+1)}
	for what, b := range badBases() {
		for _, l := range [][]api.Note{nil, sample(), {{}}, make([]api.Note, api.MaxNotes+1)} {
			for call, of := range withSets() {
				if got := of(b, l); got != (result{api.ErrBase, true}) {
					t.Errorf("%s with %s: %v", call, what, got)
				}
			}
			if e, i := register.CheckSet(b, append(sample(), l...)); e != api.ErrBase || i != 0 {
				t.Errorf("CheckSet with %s: error %d, %d", what, e, i)
			}
		}
		for _, n := range append(sample(), api.Note{}) {
			if e := register.CheckNote(b, n); e != api.ErrBase {
				t.Errorf("CheckNote with %s: error %d", what, e)
			}
		}
		for _, r := range []api.Register{{}, many} {
			c, e := register.CaseOf(b, r)
			wantError(t, "CaseOf with "+what, c, e, api.ErrBase)
		}
	}
}
