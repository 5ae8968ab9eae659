package register_test

import (
	"reflect"
	"slices"
	"testing"

	"noctuary/api"
	"noctuary/register"
)

// anyRegister is a register that no set amounts to.
func anyRegister() api.Register {
	return api.Register{
		Book: api.NameBook{First: []int{3, 1}, Changes: []api.Change{{Year: -1, From: []int{0}, To: nil}}},
		Catches: []api.Catch{
			{Sheet: name(2, 1), Observer: 7, Square: api.Square{X: 5, Y: 6}, Night: 100, Lamp: 1},
			{Sheet: name(-1, 9), Observer: 8, Square: api.Square{X: 5, Y: 6}, Night: 100},
			{Sheet: name(2, 1), Observer: 7, Square: api.Square{X: 5, Y: 6}, Night: 100, Lamp: 2},
			{Sheet: name(1, 2), Observer: 7, Square: api.Square{X: 5, Y: 6}, Night: 101, Total: span(9, 1)},
			{Sheet: name(1, 3), Observer: 7, Square: api.Square{Level: 1, X: 5, Y: 6}, Night: 102},
		},
		Records: []api.Record{
			{Sheet: name(2, 1), Line: 1, State: 3},
			{Sheet: name(1, 2), Line: 1, State: 0, Names: []int{5, 4}, Seen: [][]int{{1}, nil, {2, 3}}},
			{Sheet: name(2, 1), Line: 0, State: 0, Count: span(8, 2)},
			{Sheet: name(2, 1), Line: 1, State: 1, Said: 9},
			{Sheet: name(1, 2), Line: -7, State: 0},
			{Sheet: name(-3, 0), Line: 2, State: 4},
			{Sheet: name(-3, 0), Line: 3, State: -1},
			{Sheet: name(0, 0), Line: 0, State: 0},
			{Sheet: name(2, 2), Line: 0, State: 2},
			{Sheet: name(2, 1), Line: 5, State: 3},
		},
		Series:    []api.Series{{Observer: -1}, {Name: 7, Count: span(3, 2)}},
		Conflicts: []api.Name{name(9, 9)},
	}
}

// P6.1 (H11): the first one with the Sheet and the Line.
func TestRecordOf(t *testing.T) {
	r := anyRegister()
	for i, x := range r.Records {
		got, e := register.RecordOf(r, x.Sheet, x.Line)
		if i == 3 {
			x = r.Records[0]
		}
		wantSame(t, "RecordOf", got, e, x)
	}
	for _, x := range []struct {
		sheet api.Name
		line  int
	}{{name(2, 1), 2}, {name(2, 2), 1}, {name(1, 1), 1}, {name(3, 1), 1}, {name(2, 1), -1}, {name(2, 1), huge}} {
		got, e := register.RecordOf(r, x.sheet, x.line)
		wantError(t, "RecordOf", got, e, api.ErrNone)
	}
	got, e := register.RecordOf(api.Register{}, api.Name{}, 0)
	wantError(t, "RecordOf nothing", got, e, api.ErrNone)
}

// P6.1 (H12): the first one with the Sheet.
func TestCatchOf(t *testing.T) {
	r := anyRegister()
	for i, x := range r.Catches {
		got, e := register.CatchOf(r, x.Sheet)
		if i == 2 {
			x = r.Catches[0]
		}
		wantSame(t, "CatchOf", got, e, x)
	}
	for _, sheet := range []api.Name{name(2, 2), name(1, 1), name(9, -1), {}} {
		got, e := register.CatchOf(r, sheet)
		wantError(t, "CatchOf", got, e, api.ErrNone)
	}
	got, e := register.CatchOf(api.Register{}, api.Name{})
	wantError(t, "CatchOf nothing", got, e, api.ErrNone)
}

// P6.1 (H14): the first catch of the Observer, Square and Night.
func TestDoubled(t *testing.T) {
	r := anyRegister()
	for _, x := range []struct {
		change func(s *api.Sheet)
		want   api.Name
	}{
		{func(*api.Sheet) {}, name(2, 1)},
		{func(s *api.Sheet) { s.Year, s.Lamp, s.Total, s.Lines = 9, 77, span(0, 0), nil }, name(2, 1)},
		{func(s *api.Sheet) { s.Observer = 8 }, name(-1, 9)},
		{func(s *api.Sheet) { s.Night = 101 }, name(1, 2)},
	} {
		s := sampleSheet()
		x.change(&s)
		got, e := register.Doubled(r, s)
		wantSame(t, "Doubled", got, e, x.want)
		got, e = register.Doubled(api.Register{}, s)
		wantError(t, "Doubled of nothing", got, e, api.ErrNone)
	}
	for _, change := range []func(s *api.Sheet){
		func(s *api.Sheet) { s.Observer = 9 }, func(s *api.Sheet) { s.Square.X = 6 }, func(s *api.Sheet) { s.Square.Y = 5 }, func(s *api.Sheet) { s.Night = 102 }, func(s *api.Sheet) { s.Observer, s.Night = 8, 101 },
	} {
		s := sampleSheet()
		change(&s)
		got, e := register.Doubled(r, s)
		wantError(t, "Doubled", got, e, api.ErrNone)
	}
	long := sheetOf(slices.Repeat([]api.Line{line(1, 0, 0)}, api.MaxLines+1)...)
	wrong := sheetOf()
	wrong.Night, wrong.Square.Level = 102, 1
	for _, s := range []api.Sheet{{}, long, wrong, sheetOf(line(0, 0, 0))} {
		for _, r := range []api.Register{r, {}} {
			got, e := register.Doubled(r, s)
			wantError(t, "Doubled of a bad sheet", got, e, api.ErrSheet)
		}
	}
}

// P6.1 (H15, H16).
func TestOpenAndStates(t *testing.T) {
	r := anyRegister()
	open, e := register.Open(r)
	wantSame(t, "Open", open, e, []api.Name{name(1, 2), name(2, 1), name(0, 0)})
	states, e := register.States(r)
	wantSame(t, "States", states, e, []int{4, 1, 1, 2})
	open, e = register.Open(api.Register{})
	wantSame(t, "Open of nothing", open, e, nil)
	states, e = register.States(api.Register{})
	wantSame(t, "States of nothing", states, e, []int{0, 0, 0, 0})
	r.Records = []api.Record{{State: 4}, {State: -1}, {State: huge}, {State: -huge - 1}}
	states, e = register.States(r)
	wantSame(t, "States of no states", states, e, []int{0, 0, 0, 0})
}

// P6.1 (H17).
func TestCaseOf(t *testing.T) {
	for _, r := range []api.Register{{}, anyRegister(), mustFold(t, sample())} {
		b := base()
		c, e := register.CaseOf(b, r)
		wantSame(t, "CaseOf", c, e, api.Case{Book: r.Book, Matrix: b.Matrix, Rules: b.Rules, Lamps: b.Lamps, Catches: r.Catches, Records: r.Records, Series: r.Series})
	}
	r := anyRegister()
	r.Records = make([]api.Record, api.MaxRecords)
	r.Catches = make([]api.Catch, api.MaxRecords+1)
	r.Series = make([]api.Series, api.MaxRecords+1)
	c, e := register.CaseOf(base(), r)
	if e != api.OK || len(c.Records) != api.MaxRecords {
		t.Errorf("CaseOf of many records: %d, error %d", len(c.Records), e)
	}
	r.Records = append(r.Records, api.Record{})
	c, e = register.CaseOf(base(), r)
	wantError(t, "CaseOf of too many records", c, e, api.ErrLimit)
}

// stretch is the memory from one address to ahead of another one.
type stretch struct{ from, to uintptr }

// stretches returns the memory of all slices in a value, as far as they could be appended to.
func stretches(x reflect.Value) []stretch {
	var out []stretch
	switch x.Kind() {
	case reflect.Struct:
		for i := range x.NumField() {
			out = append(out, stretches(x.Field(i))...)
		}
	case reflect.Slice:
		if x.Cap() > 0 {
			out = append(out, stretch{x.Pointer(), x.Pointer() + uintptr(x.Cap())*x.Type().Elem().Size()})
		}
		for i := range x.Len() {
			out = append(out, stretches(x.Index(i))...)
		}
	}
	return out
}

// R7: results are new memory, and share none with arguments nor among themselves; arguments are not changed.
func TestMemory(t *testing.T) {
	type arguments struct {
		Base     api.Base
		List     []api.Note
		Other    []api.Note
		Register api.Register
		Sheet    api.Sheet
	}
	a := arguments{base(), oneOfEach(), []api.Note{judged(10, 9, api.NoteAccept, 0)}, anyRegister(), sampleSheet()}
	a.List = append(a.List, named(11, 5, 1, 2, 3), named(12, 5, 0, 2, 3), vouched(13, 5, 0, 1, 7))
	a.Other = append(a.Other, a.List[len(a.List)-1])
	calls := map[string]func() (any, api.Errno){
		"Merge":    func() (any, api.Errno) { x, e := register.Merge(a.Base, a.List, a.Other); return x, e },
		"Counts":   func() (any, api.Errno) { x, e := register.Counts(a.Base, a.List); return x, e },
		"Fold":     func() (any, api.Errno) { x, e := register.Fold(a.Base, a.List); return x, e },
		"no notes": func() (any, api.Errno) { x, e := register.Fold(a.Base, nil); return x, e },
		"AsOf":     func() (any, api.Errno) { x, e := register.AsOf(a.Base, a.List, huge, huge); return x, e },
		"BookOf":   func() (any, api.Errno) { x, e := register.BookOf(a.Base, a.List); return x, e },
		"no book":  func() (any, api.Errno) { x, e := register.BookOf(a.Base, nil); return x, e },
		"Chain":    func() (any, api.Errno) { x, e := register.Chain(a.Base, a.List, first, 1); return x, e },
		"CaseOf":   func() (any, api.Errno) { x, e := register.CaseOf(a.Base, a.Register); return x, e },
		"RecordOf": func() (any, api.Errno) { x, e := register.RecordOf(a.Register, name(1, 2), 1); return x, e },
		"Open":     func() (any, api.Errno) { x, e := register.Open(a.Register); return x, e },
		"States":   func() (any, api.Errno) { x, e := register.States(a.Register); return x, e },
		"CheckSet": func() (any, api.Errno) { e, _ := register.CheckSet(a.Base, a.List); return nil, e },
		"Fork": func() (any, api.Errno) {
			_, e := register.Fork(a.Base, a.List, a.Other)
			return nil, e - api.ErrNone
		},
		"Doubled": func() (any, api.Errno) { _, e := register.Doubled(a.Register, a.Sheet); return nil, e },
	}
	before := text(a)
	for what, call := range calls {
		x, e := call()
		if e != api.OK {
			t.Errorf("%s: error %d", what, e)
		}
		if text(a) != before {
			t.Fatalf("%s changes its arguments", what)
		}
		if x == nil {
			continue
		}
		result := stretches(reflect.ValueOf(x))
		all := append(result, stretches(reflect.ValueOf(a))...)
		for i, one := range result {
			for _, other := range all[i+1:] {
				if one.from < other.to && other.from < one.to {
					t.Errorf("%s shares memory", what)
				}
			}
		}
	}
}
