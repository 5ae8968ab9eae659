package register_test

import (
	"slices"
	"testing"

	"noctuary/api"
	"noctuary/register"
)

// P6.1 (H3).
func TestCheckSet(t *testing.T) {
	bad := api.Note{House: 1, Num: 2}
	later := judged(3, 0, api.NoteAccept, 0)
	other := judged(1, 0, api.NoteAccept, 0)
	other.House = 2
	cases := []struct {
		what string
		l    []api.Note
		e    api.Errno
		i    int
	}{
		{"nothing", nil, api.OK, 0},
		{"the sample", sample(), api.OK, 0},
		{"one of each", oneOfEach(), api.OK, 0},
		{"a gap", []api.Note{later, other}, api.OK, 0},
		{"not in order of effect", []api.Note{judged(1, 9, api.NoteAccept, 0), judged(2, 3, api.NoteAccept, 0)}, api.OK, 0},
		{"as many as may be", manyNotes(1, api.MaxNotes), api.OK, 0},
		{"too many", append(manyNotes(1, api.MaxNotes), other), api.ErrLimit, 0},
		{"too many bad ones", make([]api.Note, api.MaxNotes+1), api.ErrLimit, 0},
		{"as many bad ones as may be", make([]api.Note, api.MaxNotes), api.ErrNote, 0},
		{"a bad one", []api.Note{bad}, api.ErrNote, 0},
		{"a bad last one", sample(api.Note{House: 1, Num: 4}), api.ErrNote, 3},
		{"a bad one without a name", sample(api.Note{}), api.ErrNote, 3},
		{"a bad one of the name ahead", sample(api.Note{House: 1, Num: 3}), api.ErrNote, 3},
		{"a bad one of a lesser name", sample(bad), api.ErrNote, 3},
		{"a note twice", sample(sample()[2]), api.ErrFork, 3},
		{"two notes of a name", sample(later), api.ErrFork, 3},
		{"two first notes of a name", append(sample()[:1], sample()...), api.ErrFork, 1},
		{"a lesser Num", sample(other, later), api.ErrArg, 4},
		{"a lesser House", []api.Note{other, later}, api.ErrArg, 1},
		{"a note of long before", sample(sample()[0]), api.ErrArg, 3},
		{"ErrArg first", []api.Note{other, later, later, bad}, api.ErrArg, 1},
		{"ErrFork first", []api.Note{other, other, later, bad}, api.ErrFork, 1},
		{"ErrNote first", []api.Note{other, bad, later, later}, api.ErrNote, 1},
	}
	for _, x := range cases {
		if e, i := register.CheckSet(base(), x.l); e != x.e || i != x.i {
			t.Errorf("CheckSet of %s: error %d, %d; want %d, %d", x.what, e, i, x.e, x.i)
		}
	}
}

// P6.1: ErrArg, alone, in all functions with sets that are none; ahead of the errors of their rules.
func TestErrArg(t *testing.T) {
	lists := map[string][]api.Note{
		"a bad note":      sample(api.Note{House: 1, Num: 4}),
		"two of a name":   sample(sample()[2]),
		"no order":        sample(sample()[0]),
		"too many notes":  append(manyNotes(1, api.MaxNotes), manyNotes(2, 1)...),
		"a bad only note": {{}},
	}
	for what, l := range lists {
		for call, of := range withSets() {
			if got := of(base(), l); got != (result{api.ErrArg, true}) {
				t.Errorf("%s of %s: %v", call, what, got)
			}
		}
	}
}

// P6.1 (H5).
func TestMerge(t *testing.T) {
	l := sample()
	for _, x := range []struct{ a, b, want []api.Note }{
		{l[:2], l[1:], l},
		{l[1:], l[:2], l},
		{l, l, l},
		{l, nil, l},
		{nil, nil, nil},
		{[]api.Note{l[0], l[2]}, l[1:2], l},
		{manyNotes(2, 2), l, append(sample(), manyNotes(2, 2)...)},
		{manyNotes(1, 399), manyNotes(2, 1), append(manyNotes(1, 399), manyNotes(2, 1)...)},
	} {
		m, e := register.Merge(base(), x.a, x.b)
		wantSame(t, "Merge", m, e, x.want)
	}
}

// P6.1 (H5): ErrFork comes ahead of ErrLimit.
func TestMergeLimit(t *testing.T) {
	full := manyNotes(1, api.MaxNotes)
	more := manyNotes(2, 1)
	m, e := register.Merge(base(), full, more)
	wantError(t, "Merge of too many", m, e, api.ErrLimit)
	m, e = register.Merge(base(), more, full)
	wantError(t, "Merge of too many", m, e, api.ErrLimit)
	m, e = register.Merge(base(), full, full[:200])
	wantSame(t, "Merge of many", m, e, full)
	n := full[3]
	n.Day++
	m, e = register.Merge(base(), full, []api.Note{n, more[0]})
	wantError(t, "Merge of too many that fork", m, e, api.ErrFork)
}

// P6.1 (H5, H6): notes are equal if all their fields are.
func TestForkOfEachField(t *testing.T) {
	for _, n := range oneOfEach() {
		for _, x := range fields() {
			if !slices.Contains(x.kinds, n.Kind) || x.least == x.most || x.what == "House" || x.what == "Num" {
				continue
			}
			for _, value := range []int{x.least, x.most} {
				other := noteOf(n.Kind)
				*x.at(&other) = value
				checkFork(t, x.what, n, other, *x.at(&n) != value)
			}
		}
	}
	without := noteOf(api.NoteSheet)
	without.Sheet.Lines[1].Seen = nil
	checkFork(t, "a line's Seen", noteOf(api.NoteSheet), without, true)
	fewer := noteOf(api.NoteSheet)
	fewer.Sheet.Lines = fewer.Sheet.Lines[:2]
	checkFork(t, "Lines", noteOf(api.NoteSheet), fewer, true)
	lamp := noteOf(api.NoteSheet)
	lamp.Sheet.Lamp = 9
	checkFork(t, "Lamp", noteOf(api.NoteSheet), lamp, true)
	low := noteOf(api.NoteSheet)
	low.Sheet.Lines[0].Count.Lo = 0
	checkFork(t, "a line's Lo", noteOf(api.NoteSheet), low, true)
	judgement := noteOf(api.NoteAccept)
	judgement.Kind = api.NoteReject
	checkFork(t, "Kind", noteOf(api.NoteAccept), judgement, true)
	change := noteOf(api.NoteChange)
	change.Change.To = []int{6}
	checkFork(t, "To", noteOf(api.NoteChange), change, true)
	change = noteOf(api.NoteChange)
	change.Change.From = []int{1, 2}
	checkFork(t, "From", noteOf(api.NoteChange), change, true)
}

// checkFork checks whether two sets of one note of one name fork.
func checkFork(t *testing.T, what string, a, b api.Note, forks bool) {
	t.Helper()
	x, y := []api.Note{a}, []api.Note{b}
	fork, e := register.Fork(base(), x, y)
	m, f := register.Merge(base(), x, y)
	if forks {
		wantSame(t, "Fork by "+what, fork, e, nameOf(a))
		wantError(t, "Merge of a fork by "+what, m, f, api.ErrFork)
		return
	}
	wantError(t, "Fork of equals by "+what, fork, e, api.ErrNone)
	wantSame(t, "Merge of equals by "+what, m, f, x)
}

// R4: nil and empty lists are equal.
func TestForkOfEmptyLists(t *testing.T) {
	for _, n := range oneOfEach() {
		other := n
		if n.Kind == api.NoteSheet {
			other.Sheet.Lines = slices.Clone(n.Sheet.Lines)
			other.Sheet.Lines[0].Seen = []int{}
		} else {
			other.Sheet.Lines = []api.Line{}
		}
		if n.Kind != api.NoteName {
			other.Names = []int{}
		}
		checkFork(t, "an empty list", n, other, false)
	}
}

// P6.1 (H6): the least name, by House, then Num.
func TestFork(t *testing.T) {
	l := append(manyNotes(1, 3), manyNotes(2, 3)...)
	change := func(at ...int) []api.Note {
		out := slices.Clone(l)
		for _, i := range at {
			out[i].Day = 7
		}
		return out
	}
	for _, x := range []struct {
		at   []int
		want api.Name
	}{{[]int{0}, name(1, 1)}, {[]int{5}, name(2, 3)}, {[]int{3, 2}, name(1, 3)}, {[]int{4, 5}, name(2, 2)}, {[]int{0, 1, 2, 3, 4, 5}, name(1, 1)}} {
		fork, e := register.Fork(base(), l, change(x.at...))
		wantSame(t, "Fork", fork, e, x.want)
		fork, e = register.Fork(base(), change(x.at...), l)
		wantSame(t, "Fork", fork, e, x.want)
		fork, e = register.Fork(base(), change(x.at...), l[1:])
		if x.want == name(1, 1) && len(x.at) > 1 {
			wantSame(t, "Fork of fewer", fork, e, name(1, 2))
		} else if x.want == name(1, 1) {
			wantError(t, "Fork of fewer", fork, e, api.ErrNone)
		} else {
			wantSame(t, "Fork of fewer", fork, e, x.want)
		}
	}
	for _, y := range [][]api.Note{nil, l, l[2:], l[:1], sample()[:0], {{House: 3, Num: 1, Clock: 1, Kind: api.NoteWithdraw, Ref: first}}} {
		fork, e := register.Fork(base(), l, y)
		wantError(t, "Fork", fork, e, api.ErrNone)
		fork, e = register.Fork(base(), y, l)
		wantError(t, "Fork", fork, e, api.ErrNone)
	}
}

// P6.2: of parts of sets that may fork.
func TestUnion(t *testing.T) {
	r, forked, merged := random(), 0, 0
	for range 400 {
		l := someSet(r)
		x, y, z := someOf(r, l), someOf(r, l), someOf(r, l)
		if len(y) > 0 && r.IntN(3) == 0 {
			y[r.IntN(len(y))].Day += 5
		}
		both, e := register.Merge(base(), x, y)
		back, f := register.Merge(base(), y, x)
		fork, g := register.Fork(base(), x, y)
		if e != f || !same(both, back) || (e == api.ErrFork) != (g == api.OK) {
			t.Fatalf("Merge: %v %d, and %v %d; Fork: %v %d", both, e, back, f, fork, g)
		}
		self, f := register.Merge(base(), x, x)
		wantSame(t, "Merge of a set with itself", self, f, x)
		if e == api.ErrFork {
			forked++
			least := slices.IndexFunc(x, func(n api.Note) bool {
				i := slices.IndexFunc(y, func(other api.Note) bool { return nameOf(other) == nameOf(n) })
				return i >= 0 && y[i].Day != n.Day
			})
			wantSame(t, "Fork", fork, g, nameOf(x[least]))
			continue
		}
		merged++
		checkUnion(t, x, y, both)
		right, f := register.Merge(base(), y, z)
		if f != api.OK {
			continue
		}
		one, e := register.Merge(base(), both, z)
		other, f := register.Merge(base(), x, right)
		if e != f || !same(one, other) {
			t.Errorf("Merge is not associative: %v %d, and %v %d", one, e, other, f)
		}
	}
	if forked < 50 || merged < 50 {
		t.Errorf("%d sets fork, %d do not", forked, merged)
	}
}

// checkUnion checks that a set has just the notes of two others.
func checkUnion(t *testing.T, x, y, both []api.Note) {
	t.Helper()
	if e, i := register.CheckSet(base(), both); e != api.OK {
		t.Errorf("CheckSet of Merge: error %d at %d", e, i)
	}
	told := map[string]bool{}
	for _, n := range append(slices.Clone(x), y...) {
		told[text(n)] = true
	}
	for _, n := range both {
		if !told[text(n)] {
			t.Errorf("Merge has %v", n)
		}
	}
	if len(told) != len(both) {
		t.Errorf("Merge has %d notes; want %d", len(both), len(told))
	}
}

// P6.1 (H7).
func TestCounts(t *testing.T) {
	late := judged(4, 5, api.NoteAccept, 1)
	late.Clock = 9
	other := judged(1, 5, api.NoteAccept, 0)
	other.House = 2
	l := sample(late, undone(5, 0, name(1, 3)), undone(6, 9, name(1, 5)), listed(7, 0, 0, []int{1}, []int{1}), other)
	// The withdrawal of a withdrawal does nothing; the note that the first one withdraws stays away.
	got, e := register.Counts(base(), l)
	wantSame(t, "Counts", got, e, []api.Name{name(1, 7), name(1, 1), name(2, 1), name(1, 4), name(1, 2)})
	got, e = register.Counts(base(), nil)
	wantSame(t, "Counts of nothing", got, e, nil)
	got, e = register.Counts(base(), manyNotes(1, 3))
	wantSame(t, "Counts of withdrawals", got, e, nil)
	got, e = register.Counts(base(), []api.Note{caught(1, 0, sampleSheet()), undone(2, 0, first), undone(3, 0, first)})
	wantSame(t, "Counts of what is withdrawn twice", got, e, nil)
}

// P6.1 (H7): a note of another kind than those of withdrawals counts, even if it is a conflict.
func TestCountsOfKinds(t *testing.T) {
	got, e := register.Counts(base(), without(oneOfEach(), func(n api.Note) bool { return n.Kind == api.NoteWithdraw }))
	var want []api.Name
	for num := 1; num <= 8; num++ {
		want = append(want, name(1, num))
	}
	wantSame(t, "Counts", got, e, want)
	got, e = register.Counts(base(), oneOfEach())
	wantSame(t, "Counts with a withdrawal", got, e, slices.Delete(want, 3, 4))
}

// P6.1 (H7): in the order of Day, Clock, House, Num, of any sets.
func TestCountsOfSets(t *testing.T) {
	r := random()
	for range 500 {
		l := someSet(r)
		got, e := register.Counts(base(), l)
		wantSame(t, "Counts", got, e, namesOf(counting(l)))
	}
}

// P6.1 (H13).
func TestChain(t *testing.T) {
	l := sample(
		judged(4, 4, api.NoteAccept, 1),
		vouched(5, 6, 1, 1, 1),
		judged(6, 6, api.NoteReject, 0),
		named(7, 6, 1, 4), // a conflict, but in the chain
		judged(8, 0, api.NoteReject, 2),
		worked(9, 6, sampleSeries()),
		listed(10, 6, 9, []int{1}, []int{6}),
		caught(11, 6, sampleSheet()),
		undone(12, 6, name(1, 5)),
	)
	for at, want := range [][]api.Name{{name(1, 6)}, {name(1, 4), name(1, 2), name(1, 3), name(1, 7)}, {name(1, 8)}} {
		got, e := register.Chain(base(), l, first, at)
		wantSame(t, "Chain", got, e, want)
	}
	// A doubled sheet has its lines as well.
	got, e := register.Chain(base(), l, name(1, 11), 2)
	wantSame(t, "Chain of a doubled sheet", got, e, nil)
	for _, x := range []struct {
		sheet api.Name
		line  int
	}{
		{first, 3}, {first, -1}, {first, huge}, {first, -huge - 1}, {name(1, 2), 0}, {name(1, 10), 0}, {name(1, 12), 0}, {name(1, 13), 0}, {name(2, 1), 0}, {api.Name{}, 0}, {name(-1, huge), 0},
	} {
		got, e := register.Chain(base(), l, x.sheet, x.line)
		wantError(t, "Chain", got, e, api.ErrNone)
	}
	// So has a sheet that is withdrawn.
	l = append(l, undone(13, 0, first))
	got, e = register.Chain(base(), l, first, 0)
	wantSame(t, "Chain of a sheet that is withdrawn", got, e, []api.Name{name(1, 6)})
	got, e = register.Chain(base(), []api.Note{caught(1, 0, sheetOf())}, first, 0)
	wantError(t, "Chain of a sheet without lines", got, e, api.ErrNone)
	got, e = register.Chain(base(), []api.Note{judged(2, 0, api.NoteAccept, 0)}, first, 0)
	wantError(t, "Chain without the sheet", got, e, api.ErrNone)
}

// P6.1 (H13): notes about lines of the same number of other sheets are of other chains.
func TestChainOfSheets(t *testing.T) {
	other := judged(3, 0, api.NoteAccept, 0)
	other.Ref = name(1, 2)
	l := []api.Note{caught(1, 0, sampleSheet()), caught(2, 0, otherSheet(5, line(1, 0, 0))), other, judged(4, 0, api.NoteReject, 0)}
	got, e := register.Chain(base(), l, first, 0)
	wantSame(t, "Chain", got, e, []api.Name{name(1, 4)})
	got, e = register.Chain(base(), l, name(1, 2), 0)
	wantSame(t, "Chain", got, e, []api.Name{name(1, 3)})
}
