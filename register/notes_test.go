package register_test

import (
	"slices"
	"testing"

	"noctuary/api"
	"noctuary/register"
)

// noteOf returns a well-formed note of a kind.
func noteOf(kind int) api.Note { return oneOfEach()[kind-1] }

// checkChanged checks what CheckNote returns of a note of a kind after a change.
func checkChanged(t *testing.T, what string, kind int, change func(n *api.Note), want api.Errno) {
	t.Helper()
	n := noteOf(kind)
	change(&n)
	if e := register.CheckNote(base(), n); e != want {
		t.Errorf("CheckNote of %v (%s): error %d; want %d", n, what, e, want)
	}
}

// field is a number of a note, with its bounds in the notes of oneOfEach of some kinds.
type field struct {
	what        string
	at          func(n *api.Note) *int
	least, most int
	kinds       []int
}

func kinds(from, to int) []int {
	var l []int
	for kind := from; kind <= to; kind++ {
		l = append(l, kind)
	}
	return l
}

// item returns an element of a list, which becomes as long as that takes.
func item[T any](l *[]T, i int) *T {
	for len(*l) <= i {
		*l = append(*l, *new(T))
	}
	return &(*l)[i]
}

func fields() []field {
	all, ofLines, ofNotes := kinds(1, 9), kinds(2, 6), append(kinds(2, 6), 9)
	sheet, change, series := kinds(1, 1), kinds(7, 7), kinds(8, 8)
	return []field{
		{"House", func(n *api.Note) *int { return &n.House }, 1, 8, all},
		{"Num", func(n *api.Note) *int { return &n.Num }, 1, 400, all},
		{"Clock", func(n *api.Note) *int { return &n.Clock }, 1, 1 << 40, all},
		{"Day", func(n *api.Note) *int { return &n.Day }, 0, 99999, all},
		{"Ref.House", func(n *api.Note) *int { return &n.Ref.House }, 1, 8, ofNotes},
		{"Ref.Num", func(n *api.Note) *int { return &n.Ref.Num }, 1, 400, ofNotes},
		{"Line", func(n *api.Note) *int { return &n.Line }, 0, 199, ofLines},
		{"Observer", func(n *api.Note) *int { return &n.Sheet.Observer }, 1, 65535, sheet},
		{"Year", func(n *api.Note) *int { return &n.Sheet.Year }, 0, 273, sheet},
		{"Level", func(n *api.Note) *int { return &n.Sheet.Square.Level }, 0, 0, sheet},
		{"X", func(n *api.Note) *int { return &n.Sheet.Square.X }, 0, 1023, sheet},
		{"Y", func(n *api.Note) *int { return &n.Sheet.Square.Y }, 0, 1023, sheet},
		{"Night", func(n *api.Note) *int { return &n.Sheet.Night }, 0, 99999, sheet},
		{"Total.Lo", func(n *api.Note) *int { return &n.Sheet.Total.Lo }, 0, 20, sheet},
		{"Total.Hi", func(n *api.Note) *int { return &n.Sheet.Total.Hi }, 10, 100000, sheet},
		{"a line's Name", func(n *api.Note) *int { return &item(&n.Sheet.Lines, 0).Name }, 1, 65535, sheet},
		{"a line's Hi", func(n *api.Note) *int { return &item(&n.Sheet.Lines, 0).Count.Hi }, 3, 100000, sheet},
		{"a line's Seen", func(n *api.Note) *int { return item(&item(&n.Sheet.Lines, 1).Seen, 0) }, 1, 3, sheet},
		{"a line's last Seen", func(n *api.Note) *int { return item(&item(&n.Sheet.Lines, 1).Seen, 1) }, 1, 7, sheet},
		{"Names", func(n *api.Note) *int { return item(&n.Names, 0) }, 1, 2, kinds(5, 5)},
		{"the last of Names", func(n *api.Note) *int { return item(&n.Names, 1) }, 2, 65535, kinds(5, 5)},
		{"Seen", func(n *api.Note) *int { return item(&n.Seen, 0) }, 1, 3, kinds(6, 6)},
		{"the last Seen", func(n *api.Note) *int { return item(&n.Seen, 1) }, 1, 7, kinds(6, 6)},
		{"Change.Year", func(n *api.Note) *int { return &n.Change.Year }, 0, 273, change},
		{"From", func(n *api.Note) *int { return item(&n.Change.From, 0) }, 1, 65535, change},
		{"To", func(n *api.Note) *int { return item(&n.Change.To, 0) }, 1, 6, change},
		{"the last of To", func(n *api.Note) *int { return item(&n.Change.To, 1) }, 7, 65535, change},
		{"Series.Observer", func(n *api.Note) *int { return &n.Series.Observer }, 1, 65535, series},
		{"Series.Said", func(n *api.Note) *int { return &n.Series.Said }, 1, 65535, series},
		{"Series.Name", func(n *api.Note) *int { return &n.Series.Name }, 1, 65535, series},
		{"Series.Year", func(n *api.Note) *int { return &n.Series.Year }, 0, 273, series},
		{"Series.From", func(n *api.Note) *int { return &n.Series.From }, 0, 110, series},
		{"Series.To", func(n *api.Note) *int { return &n.Series.To }, 90, 99999, series},
		{"Series.Count.Lo", func(n *api.Note) *int { return &n.Series.Count.Lo }, 0, 8, series},
		{"Series.Count.Hi", func(n *api.Note) *int { return &n.Series.Count.Hi }, 2, 100000, series},
	}
}

// P6.1 (H2): the bounds of all numbers.
func TestCheckNoteOfNumbers(t *testing.T) {
	for _, x := range fields() {
		for _, kind := range x.kinds {
			for _, n := range []int{x.least, x.most} {
				checkChanged(t, x.what, kind, func(note *api.Note) { *x.at(note) = n }, api.OK)
			}
			for _, n := range []int{x.least - 1, x.most + 1, huge, -huge - 1} {
				checkChanged(t, x.what, kind, func(note *api.Note) { *x.at(note) = n }, api.ErrNote)
			}
		}
	}
}

// P6.1 (H2): the kinds of the table, and no others.
func TestCheckNoteOfKinds(t *testing.T) {
	for _, n := range oneOfEach() {
		if e := register.CheckNote(base(), n); e != api.OK {
			t.Errorf("CheckNote of %v: error %d", n, e)
		}
		for _, kind := range []int{0, -1, 10, huge, -huge - 1} {
			checkChanged(t, "no kind", n.Kind, func(n *api.Note) { n.Kind = kind }, api.ErrNote)
		}
	}
	for _, kind := range []int{0, 10} {
		if e := register.CheckNote(base(), api.Note{House: 1, Num: 1, Clock: 1, Kind: kind}); e != api.ErrNote {
			t.Errorf("CheckNote of an empty note of kind %d: error %d", kind, e)
		}
	}
	if e := register.CheckNote(base(), api.Note{}); e != api.ErrNote {
		t.Errorf("CheckNote of nothing: error %d", e)
	}
}

// P6.1 (H2): a note's House may be beyond the base's Houses.
func TestCheckNoteOfFurtherHouses(t *testing.T) {
	b := base()
	b.Houses = 1
	n := noteOf(2)
	n.House, n.Ref.House = api.MaxHouses, api.MaxHouses
	if e := register.CheckNote(b, n); e != api.OK {
		t.Errorf("CheckNote: error %d", e)
	}
}

// P6.1 (H2): fields that the table does not name for a kind are 0 or empty.
func TestCheckNoteOfOtherFields(t *testing.T) {
	lamp := field{"Lamp", func(n *api.Note) *int { return &n.Sheet.Lamp }, 2, 2, kinds(1, 1)}
	for _, x := range append(fields(), lamp) {
		for kind := 1; kind <= 9; kind++ {
			if slices.Contains(x.kinds, kind) {
				continue
			}
			for _, n := range []int{1, -1} {
				checkChanged(t, x.what, kind, func(note *api.Note) { *x.at(note) = n }, api.ErrNote)
			}
		}
	}
	for kind := 2; kind <= 9; kind++ {
		checkChanged(t, "a whole sheet", kind, func(n *api.Note) { n.Sheet = sampleSheet() }, api.ErrNote)
		checkChanged(t, "an empty line", kind, func(n *api.Note) { n.Sheet.Lines = make([]api.Line, 1) }, api.ErrNote)
	}
	checkChanged(t, "a series", api.NoteChange, func(n *api.Note) { n.Series = sampleSeries() }, api.ErrNote)
	checkChanged(t, "a list with a 0", api.NoteAccept, func(n *api.Note) { n.Names = []int{0} }, api.ErrNote)
}

// P6.1 (H2), R4: lists that are empty, and not nil.
func TestCheckNoteOfEmptyLists(t *testing.T) {
	none := []int{}
	for kind := 1; kind <= 9; kind++ {
		checkChanged(t, "empty lists", kind, func(n *api.Note) {
			if kind != api.NoteSheet {
				n.Sheet.Lines = []api.Line{}
			}
			if kind != api.NoteName {
				n.Names = none
			}
			if kind != api.NoteVoucher {
				n.Seen = none
			}
			if kind != api.NoteChange {
				n.Change.From, n.Change.To = none, none
			}
		}, api.OK)
	}
}

// P6.1 (H2): lists of names.
func TestCheckNoteOfLists(t *testing.T) {
	lists := []struct {
		l    []int
		want api.Errno
	}{
		{[]int{1}, api.OK},
		{[]int{api.MaxID}, api.OK},
		{[]int{2, 3, 9, 40}, api.OK},
		{longList(api.MaxList), api.OK},
		{longList(api.MaxList + 1), api.ErrNote},
		{nil, api.ErrNote},
		{[]int{}, api.ErrNote},
		{[]int{0}, api.ErrNote},
		{[]int{0, 1}, api.ErrNote},
		{[]int{-1, 5}, api.ErrNote},
		{[]int{5, api.MaxID + 1}, api.ErrNote},
		{[]int{2, 2}, api.ErrNote},
		{[]int{1, 3, 2}, api.ErrNote},
	}
	for _, x := range lists {
		checkChanged(t, "Names", api.NoteName, func(n *api.Note) { n.Names = x.l }, x.want)
		checkChanged(t, "From", api.NoteChange, func(n *api.Note) { n.Change.From = x.l }, x.want)
		checkChanged(t, "To", api.NoteChange, func(n *api.Note) { n.Change.To = x.l }, x.want)
	}
	// A note need not fit the book.
	checkChanged(t, "a name in From and To", api.NoteChange, func(n *api.Note) { n.Change.From, n.Change.To = []int{99}, []int{99} }, api.OK)
}

// P6.1 (H2): what was seen, of a voucher and of the lines of a sheet.
func TestCheckNoteOfSeen(t *testing.T) {
	lists := []struct {
		l    []int
		want api.Errno
	}{
		{[]int{1, 1}, api.OK},
		{[]int{3, 7}, api.OK},
		{[]int{1}, api.ErrNote},
		{[]int{1, 1, 1}, api.ErrNote},
		{[]int{0, 1}, api.ErrNote},
		{[]int{1, 0}, api.ErrNote},
		{[]int{4, 1}, api.ErrNote},
		{[]int{1, 8}, api.ErrNote},
		{[]int{-1, 1}, api.ErrNote},
	}
	for _, x := range lists {
		checkChanged(t, "Seen", api.NoteVoucher, func(n *api.Note) { n.Seen = x.l }, x.want)
		for i := range 3 {
			checkChanged(t, "a line's Seen", api.NoteSheet, func(n *api.Note) { n.Sheet.Lines[i].Seen = x.l }, x.want)
		}
	}
	for _, l := range [][]int{nil, {}} {
		checkChanged(t, "no Seen", api.NoteVoucher, func(n *api.Note) { n.Seen = l }, api.ErrNote)
		checkChanged(t, "a line without Seen", api.NoteSheet, func(n *api.Note) { n.Sheet.Lines[1].Seen = l }, api.OK)
	}
}

// P6.1 (H2): sheets and their lamps.
func TestCheckNoteOfSheets(t *testing.T) {
	for lamp, want := range map[int]api.Errno{2: api.OK, 9: api.OK, 1: api.ErrNote, 3: api.ErrNote, 10: api.ErrNote, 0: api.ErrNote} {
		checkChanged(t, "Lamp", api.NoteSheet, func(n *api.Note) { n.Sheet.Lamp = lamp }, want)
	}
	for count, want := range map[int]api.Errno{0: api.OK, api.MaxLines: api.OK, api.MaxLines + 1: api.ErrNote} {
		checkChanged(t, "Lines", api.NoteSheet, func(n *api.Note) { n.Sheet.Lines = slices.Repeat([]api.Line{line(1, 0, 0)}, count) }, want)
	}
	checkChanged(t, "no sheet", api.NoteSheet, func(n *api.Note) { n.Sheet = api.Sheet{} }, api.ErrNote)
	checkChanged(t, "no Series", api.NoteSeries, func(n *api.Note) { n.Series = api.Series{} }, api.ErrNote)
	b := base()
	b.Lamps = nil
	if e := register.CheckNote(b, noteOf(api.NoteSheet)); e != api.ErrNote {
		t.Errorf("CheckNote of a sheet without lamps: error %d", e)
	}
}

// P6.1 (H4).
func TestBefore(t *testing.T) {
	at := func(day, clock, house, num int) api.Note {
		return api.Note{Day: day, Clock: clock, House: house, Num: num}
	}
	inOrder := []api.Note{
		at(-huge-1, huge, huge, huge), at(-1, 9, 9, 9), at(0, 0, 0, 0), at(0, 0, 0, 1), at(0, 0, 1, -1), at(0, 1, -huge-1, 0), at(0, 1, 0, 0),
		at(1, -9, 5, 5), at(1, 2, 3, 4), at(1, 2, 3, 5), at(1, 2, 4, 4), at(1, 2, 4, huge), at(1, 3, 3, 3), at(2, 1, 1, 1), at(huge, -1, -1, -1), at(huge, -1, -1, 0),
	}
	for i, a := range inOrder {
		for k, b := range inOrder {
			if register.Before(a, b) != (i < k) {
				t.Errorf("Before of %v and %v: %v", a, b, i >= k)
			}
		}
	}
	a, b := at(1, 2, 3, 4), at(1, 2, 3, 4)
	a.Kind, b.Line, b.Names, b.Sheet.Observer = 1, -7, []int{9, 3}, 5
	if register.Before(a, b) || register.Before(b, a) {
		t.Errorf("Before asks what it must not ask")
	}
}
