package posts_test

import (
	"slices"
	"testing"

	"noctuary/api"
	"noctuary/posts"
	"noctuary/register"
)

// P9.1 (O11): houses.
func TestNewHouse(t *testing.T) {
	for id := 1; id <= api.MaxHouses; id++ {
		h := newHouse(t, base(), id)
		if len(h.Notes()) != 0 || !slices.Equal(h.Counts(), known()) || !slices.Equal(h.Heard(1), known()) || !slices.Equal(h.Heard(8), known()) {
			t.Errorf("a new house: %v, %v, %v", h.Notes(), h.Counts(), h.Heard(1))
		}
		n := mustDo(t, h, caught(1, 1))
		wantSame(t, "its first note", nameOf(n), name(id, 1))
	}
	for _, id := range []int{0, -1, 9, huge, -huge - 1} {
		h, e := posts.NewHouse(base(), id)
		if h != nil || e != api.ErrArg {
			t.Errorf("NewHouse of %d: %v, error %d", id, h, e)
		}
	}
	for what, b := range wrongBases() {
		h, e := posts.NewHouse(b, 1)
		if h != nil || e != api.ErrArg {
			t.Errorf("NewHouse with a wrong base: %s: %v, error %d", what, h, e)
		}
	}
}

// P9.1: methods of houses that NewHouse did not make.
func TestNoHouse(t *testing.T) {
	for _, h := range []*posts.House{nil, {}, new(posts.House)} {
		n, e := h.Do(caught(1, 1))
		wantError(t, "Do", n, e, api.ErrArg)
		h.Sync()
		wantSame(t, "Notes", h.Notes(), nil)
		wantSame(t, "Counts", h.Counts(), nil)
		wantSame(t, "Heard", h.Heard(1), nil)
		l, e := h.Letter(1)
		wantError(t, "Letter", l, e, api.ErrArg)
		k, e := h.Hear(nil)
		wantError(t, "Hear", k, e, api.ErrArg)
		k, e = h.Hear(manyOf(1, 2))
		wantError(t, "Hear", k, e, api.ErrArg)
		k, e = h.Hear([]api.Note{{}})
		wantError(t, "Hear of what is no note", k, e, api.ErrArg)
		k, e = h.Take(1, letterOf(known()))
		wantError(t, "Take", k, e, api.ErrArg)
		wantSame(t, "Crash", h.Crash(0, -1, 0), api.ErrArg)
		wantSame(t, "Notes behind all", h.Notes(), nil)
	}
}

// P9.1 (O12): the name and the Clock of a note that is done.
func TestDo(t *testing.T) {
	h := newHouse(t, base(), 2)
	n := caught(3, 1, line(1, 2, 2))
	got, e := h.Do(called(n, 7, 99, -5))
	wantBoth(t, "Do", got, e, called(n, 2, 1, 1), api.OK)
	mustHear(t, h, called(caught(1, 2), 1, 1, 70), called(caught(1, 3), 1, 2, 9), called(caught(1, 4), 8, 1, 69))
	got, e = h.Do(caught(3, 5))
	wantBoth(t, "Do behind notes of others", got, e, called(caught(3, 5), 2, 2, 71), api.OK)
	mustHear(t, h, called(caught(1, 6), 2, 3, 5))
	got, e = h.Do(judged(3, api.NoteReject, name(1, 1), 0))
	wantBoth(t, "Do of a note about no line", got, e, api.Note{}, api.ErrPlace)
	got, e = h.Do(judged(3, api.NoteReject, name(2, 1), 0))
	wantBoth(t, "Do behind an own note that was heard", got, e, called(judged(3, api.NoteReject, name(2, 1), 0), 2, 4, 72), api.OK)
	wantSame(t, "Counts", h.Counts(), known(2, 4, 0, 0, 0, 0, 0, 1))
	want := []api.Note{
		called(caught(1, 2), 1, 1, 70), called(caught(1, 3), 1, 2, 9),
		called(n, 2, 1, 1), called(caught(3, 5), 2, 2, 71), called(caught(1, 6), 2, 3, 5), got,
		called(caught(1, 4), 8, 1, 69),
	}
	wantSame(t, "Notes", h.Notes(), want)
}

// P9.1 (O12): a note that would be a conflict, with all notes that the house knows, unless it is a withdrawal.
func TestDoPlace(t *testing.T) {
	change := api.Note{Day: 1, Kind: api.NoteChange, Change: api.Change{Year: 9, From: []int{1}, To: []int{6}}}
	series := api.Note{Day: 1, Kind: api.NoteSeries, Series: api.Series{Observer: 7, Said: 1, Year: 3, Name: 3}}
	naming := judged(1, api.NoteName, name(3, 1), 0)
	naming.Names = []int{1, 4}
	voucher := judged(1, api.NoteVoucher, name(3, 1), 2)
	voucher.Seen = []int{1, 1}
	late := caught(9, 50)
	for what, x := range map[string]struct {
		ok bool
		n  api.Note
	}{
		"a sheet of another night":        {true, caught(1, 51)},
		"a sheet again":                   {false, late},
		"a sheet that was ahead of it":    {true, caught(8, 50)},
		"a sheet with an unknown name":    {false, caught(1, 51, line(4, 1, 1))},
		"a sheet with all names":          {true, caught(1, 51, line(1, 1, 1), line(2, 1, 1), line(3, 1, 1))},
		"a judgement":                     {true, judged(0, api.NoteAccept, name(3, 1), 1)},
		"a judgement of no line":          {false, judged(9, api.NoteQuery, name(3, 1), 2)},
		"a judgement of no sheet":         {false, judged(9, api.NoteReject, name(3, 2), 0)},
		"names of another year":           {false, naming},
		"a voucher of no line":            {false, voucher},
		"a change":                        {true, change},
		"a change of what is gone":        {false, api.Note{Day: 1, Kind: api.NoteChange, Change: api.Change{Year: 4, From: []int{1}, To: []int{7}}}},
		"a series":                        {true, series},
		"a withdrawal":                    {true, undone(1, name(3, 1))},
		"a withdrawal of nothing":         {true, undone(1, name(8, 8))},
		"a withdrawal of a withdrawal":    {true, undone(1, name(3, 2))},
		"a withdrawal of itself":          {true, undone(1, name(2, 1))},
		"a judgement of a sheet to come":  {false, judged(9, api.NoteAccept, name(2, 1), 0)},
		"a series of an unknown name":     {false, api.Note{Kind: api.NoteSeries, Series: api.Series{Observer: 7, Said: 1, Year: 3, Name: 4}}},
		"a sheet with an observer's twin": {false, caught(9, 50, line(1, 2, 2))},
	} {
		h := newHouse(t, base(), 2)
		mustHear(t, h, called(caught(9, 50, line(1, 1, 1), line(2, 1, 1)), 3, 1, 1), called(undone(9, name(7, 7)), 3, 2, 1))
		got, e := h.Do(x.n)
		if x.ok {
			wantBoth(t, what, got, e, called(x.n, 2, 1, 2), api.OK)
		} else {
			wantError(t, what, got, e, api.ErrPlace)
			wantSame(t, what+": Notes", len(h.Notes()), 2)
		}
	}
	h := newHouse(t, base(), 2)
	mustDo(t, h, undone(1, name(2, 2)))
	got := mustDo(t, h, judged(9, api.NoteAccept, name(5, 5), 0)) // it is withdrawn, and no conflict
	wantSame(t, "a note that is withdrawn ahead", nameOf(got), name(2, 2))
}

// P9.1 (O12): the errors of Do, alone and in order; nothing is added.
func TestDoErrors(t *testing.T) {
	wide := newHouse(t, wideBase(), 1)
	n, e := wide.Do(great(t, 1, api.MaxBody+1))
	wantError(t, "a note of too many bytes", n, e, api.ErrNote)
	place := great(t, 1, api.MaxBody+1)
	place.Sheet.Lines[0].Name = 9
	n, e = wide.Do(place)
	wantError(t, "a note of too many bytes that is a conflict", n, e, api.ErrNote)
	mustDo(t, wide, great(t, 1, api.MaxBody))
	for _, bad := range []api.Note{{}, {Kind: 10}, caught(-1, 1), {Kind: api.NoteWithdraw}, judged(1, api.NoteAccept, name(9, 1), 0)} {
		n, e = wide.Do(bad)
		wantError(t, "what is no note", n, e, api.ErrNote)
	}
	wantSame(t, "Counts", wide.Counts(), known(1))

	full := newHouse(t, base(), 1)
	mustHear(t, full, manyOf(2, api.MaxNotes-1)...)
	mustDo(t, full, caught(1, 1))
	for _, x := range []api.Note{caught(1, 2), caught(1, 1), {}} {
		n, e = full.Do(x)
		wantError(t, "Do of a house that knows many notes", n, e, api.ErrLimit)
	}
	wantSame(t, "Counts", full.Counts(), known(1, api.MaxNotes-1))

	late := newHouse(t, base(), 1)
	mustHear(t, late, called(caught(1, 1), 2, 1, api.MaxClock-1))
	n, e = late.Do(caught(1, 2))
	wantBoth(t, "Do at the last time", n, e, called(caught(1, 2), 1, 1, api.MaxClock), api.OK)
	for _, x := range []api.Note{caught(1, 3), caught(1, 1), {}, undone(1, name(1, 1))} {
		n, e = late.Do(x)
		wantError(t, "Do behind the last time", n, e, api.ErrLimit)
	}
	wantSame(t, "Counts", late.Counts(), known(1, 1))
}

// P9.1 (O18): what is passed over, and what is added.
func TestHear(t *testing.T) {
	h := newHouse(t, base(), 1)
	mine := mustDo(t, h, caught(1, 1))
	l := manyOf(3, 5)
	for _, x := range []struct {
		l      []api.Note
		added  int
		counts []int
	}{
		{nil, 0, known(1)},
		{[]api.Note{mine, mine}, 0, known(1)},
		{l[1:], 0, known(1)},
		{[]api.Note{l[1], l[0], l[0]}, 1, known(1, 0, 1)},
		{[]api.Note{l[3], l[2], l[1], l[0]}, 1, known(1, 0, 2)},
		{[]api.Note{l[2], l[4], mine, l[3], l[4]}, 3, known(1, 0, 5)},
		{l, 0, known(1, 0, 5)},
		{[]api.Note{called(mine, 1, 2, 9), called(mine, 1, 4, 9), called(mine, 8, 2, 9), called(mine, 8, 1, 9)}, 2, known(2, 0, 5, 0, 0, 0, 0, 1)},
	} {
		n, e := h.Hear(x.l)
		wantBoth(t, "Hear of "+short(x.l), n, e, x.added, api.OK)
		wantSame(t, "Counts", h.Counts(), x.counts)
	}
	want := append([]api.Note{mine, called(mine, 1, 2, 9)}, l...)
	wantSame(t, "Notes", h.Notes(), append(want, called(mine, 8, 1, 9)))
}

// P9.1 (O18): Hear adds notes that are conflicts, too.
func TestHearConflicts(t *testing.T) {
	h := newHouse(t, base(), 1)
	mustDo(t, h, caught(1, 1))
	mustHear(t, h, called(caught(0, 1), 2, 1, 1), called(judged(1, api.NoteAccept, name(7, 7), 7), 2, 2, 1))
	r, e := register.Fold(base(), h.Notes())
	wantBoth(t, "Conflicts", r.Conflicts, e, []api.Name{name(1, 1), name(2, 2)}, api.OK)
}

// P9.1 (O18): each error, alone and in order; nothing is added.
func TestHearErrors(t *testing.T) {
	twin := func(n api.Note) api.Note { n.Day++; return n }
	l, others := manyOf(2, api.MaxNotes), manyOf(3, 3)
	bad := called(undone(0, name(0, 1)), 2, 3, 1)
	badGap := called(bad, 5, 9, 1)
	for what, x := range map[string]struct {
		l []api.Note
		e api.Errno
	}{
		"what is no note":                  {[]api.Note{l[2], bad}, api.ErrNote},
		"what is no note behind a gap":     {[]api.Note{l[2], badGap}, api.ErrNote},
		"the zero note":                    {[]api.Note{{}}, api.ErrNote},
		"a fork ahead of what is no note":  {[]api.Note{twin(l[0]), {}}, api.ErrNote},
		"too many ahead of that":           {slices.Concat(l, others, []api.Note{{}}), api.ErrNote},
		"a fork":                           {[]api.Note{l[2], twin(l[1])}, api.ErrFork},
		"a fork with an own note":          {[]api.Note{twin(called(caught(1, 1), 1, 1, 1))}, api.ErrFork},
		"a fork in a list":                 {[]api.Note{l[2], l[3], twin(l[2])}, api.ErrFork},
		"a fork at the end of a long list": {slices.Concat(l, others, []api.Note{twin(others[2])}), api.ErrFork},
		"a fork far behind the limit":      {slices.Concat(l, manyOf(4, 300), []api.Note{twin(called(l[0], 4, 300, 300))}), api.ErrFork},
		"too many":                         {l, api.ErrLimit},
		"too many of two houses":           {slices.Concat(others, l[:399]), api.ErrLimit},
	} {
		h := newHouse(t, base(), 1)
		mine := mustDo(t, h, caught(1, 1))
		mustHear(t, h, l[:2]...)
		n, e := h.Hear(x.l)
		wantError(t, what, n, e, x.e)
		wantSame(t, what+": Notes", h.Notes(), []api.Note{mine, l[0], l[1]})
		n, e = h.Hear(l[2:399])
		wantBoth(t, "as many as there may be", n, e, 397, api.OK)
		n, e = h.Hear(slices.Concat(l[:399], others[1:], []api.Note{mine}))
		wantBoth(t, "passed over by a full house", n, e, 0, api.OK)
		n, e = h.Hear(others[:1])
		wantError(t, "one too many", n, e, api.ErrLimit)
	}
}

// P9.1 (O18): a note that was passed over in a list does not fork with one that is added behind it.
func TestHearGapThenFork(t *testing.T) {
	h := newHouse(t, base(), 1)
	l := manyOf(2, 2)
	other := l[1]
	other.Day = 7
	n, e := h.Hear([]api.Note{other, l[0], l[1]})
	wantBoth(t, "Hear", n, e, 2, api.OK)
	wantSame(t, "Notes", h.Notes(), l)
}

// P9.1 (O18): every field of a note can make a fork.
func TestForks(t *testing.T) {
	for i, n := range oneOfEach() {
		n = called(n, 2, 1, 5)
		for k, other := range oneOfEach() {
			other = called(other, 2, 1, 5)
			h := newHouse(t, base(), 1)
			mustHear(t, h, n)
			added, e := h.Hear([]api.Note{other})
			if i == k {
				wantBoth(t, "the same note", added, e, 0, api.OK)
			} else {
				wantError(t, "another note", added, e, api.ErrFork)
			}
		}
	}
}

// P9.1 (O18): notes of too many bytes are none, whether they would be added or not.
func TestHearGreatNotes(t *testing.T) {
	h := newHouse(t, wideBase(), 1)
	long := great(t, 1, api.MaxBody+1)
	for _, num := range []int{1, 3} {
		n, e := h.Hear([]api.Note{called(long, 2, num, 1)})
		wantError(t, "Hear of a great note", n, e, api.ErrNote)
	}
	mustHear(t, h, called(great(t, 1, api.MaxBody), 2, 1, 1))
	n, e := h.Hear([]api.Note{called(long, 2, 1, 1)})
	wantError(t, "Hear of a great note that forks", n, e, api.ErrNote)
	wantSame(t, "Crash", h.Crash(1<<62-1, -1, 0), api.OK)
	wantSame(t, "Notes behind a crash without the last pages", len(h.Notes()), 0)
	mustHear(t, h, called(great(t, 1, api.MaxBody), 2, 1, 1))
	h.Sync()
	wantSame(t, "Crash", h.Crash(0, -1, 0), api.OK)
	wantSame(t, "Notes behind a crash", h.Notes(), []api.Note{called(great(t, 1, api.MaxBody), 2, 1, 1)})
}

// P9.1 (O12, O18): a house's notebook may have more pages than Write allows.
func TestGreatNotebook(t *testing.T) {
	h := newHouse(t, wideBase(), 1)
	var l []api.Note
	for num := 1; num <= 130; num++ {
		l = append(l, called(great(t, num%50, api.MaxBody-8), 2, num, num))
	}
	mustHear(t, h, l...)
	mustDo(t, h, great(t, 60, api.MaxBody-8))
	h.Sync()
	mustDo(t, h, undone(1, name(1, 1)))
	wantSame(t, "Crash", h.Crash(0, -1, 0), api.OK)
	wantSame(t, "Counts", h.Counts(), known(1, 130))
	wantSame(t, "Notes", h.Notes()[1:], l)
}

// P9.1 (O13, O20), P9.4: what is left behind a crash.
func TestHouseCrash(t *testing.T) {
	other := called(caught(1, 2, slices.Repeat([]api.Line{line(1, 1, 1)}, 7)...), 2, 1, 9)
	for _, x := range []struct{ keep, torn, bytes, left int }{
		{0, -1, 0, 1}, {1, -1, 0, 1}, {2, -1, 0, 1}, {3, -1, 0, 2}, {7, -1, 0, 2}, {15, -1, 32, 2}, {31, -1, 0, 3}, {1<<62 - 1, -1, 0, 3},
		{30, -1, 0, 1}, {28, -1, 0, 1}, {29, -1, 0, 1}, {27, -1, 0, 2}, {31, 4, 32, 3}, {15, 4, 32, 3}, {15, 4, 10, 2}, {31, 4, 0, 2}, {31, 0, 4, 1}, {30, 0, 32, 3}, {0, 1, 32, 1},
	} {
		h := newHouse(t, base(), 1)
		first := mustDo(t, h, caught(1, 1, line(1, 1, 1)))
		h.Sync()
		second := mustDo(t, h, undone(1, name(4, 4))) // two pages
		mustHear(t, h, other)                         // three pages
		h.Take(3, letterOf(known(5, 6, 7)))
		wantSame(t, "Crash", h.Crash(x.keep, x.torn, x.bytes), api.OK)
		left := []api.Note{first, second, other}[:x.left]
		wantSame(t, "Notes behind the crash "+text(x), h.Notes(), left)
		wantSame(t, "Heard behind a crash", h.Heard(3), known())
		wantSame(t, "Crash with a torn page when there is none", h.Crash(0, 0, 0), api.ErrArg)
		wantSame(t, "another Crash", h.Crash(0, -1, 0), api.OK)
		wantSame(t, "Notes behind another crash", h.Notes(), left)
		next := mustDo(t, h, caught(1, 9))
		wantSame(t, "the next note", next, called(caught(1, 9), 1, min(x.left, 2)+1, []int{2, 3, 10}[x.left-1]))
		h.Sync()
		wantSame(t, "a further Crash", h.Crash(0, -1, 0), api.OK)
		wantSame(t, "how many there are", len(h.Notes()), x.left+1)
	}
}

// P9.1 (O20): errors, with which nothing happens.
func TestHouseCrashErrors(t *testing.T) {
	h := newHouse(t, base(), 1)
	mustDo(t, h, caught(1, 1))
	h.Take(2, letterOf(known(0, 3)))
	for _, x := range [][3]int{{-1, -1, 0}, {1 << 62, -1, 0}, {0, 2, 0}, {0, -2, 0}, {0, -1, 33}, {0, 0, 33}, {0, 0, -1}, {huge, huge, huge}} {
		wantSame(t, "Crash"+text(x), h.Crash(x[0], x[1], x[2]), api.ErrArg)
		wantSame(t, "Counts", h.Counts(), known(1))
		wantSame(t, "Heard", h.Heard(2), known(0, 3))
	}
	wantSame(t, "Crash", h.Crash(0, 1, 32), api.OK)
	wantSame(t, "Counts", h.Counts(), known())
}

// P9.4: behind any crashes a house knows what it knew when it synced, and the first ones of those that it added later.
func TestPower(t *testing.T) {
	r := random()
	for range 300 {
		h, d := newHouse(t, base(), 1), &diary{id: 1}
		for range 25 {
			switch r.IntN(8) {
			case 0:
				h.Sync()
				d.synced = len(d.notes)
			case 1:
				keep, torn, bytes := someCrash(r)
				before, synced := slices.Clone(d.notes), d.synced
				e := d.crash(keep, torn, bytes)
				wantSame(t, "Crash", h.Crash(keep, torn, bytes), e)
				if e == api.OK && (len(d.notes) < synced || !same(d.notes, before[:len(d.notes)])) {
					t.Error("the diary of the tests is wrong")
				}
			case 2:
				l := []api.Note{called(caught(1, r.IntN(99)), 2, d.count(2)+1, 1+r.IntN(9)), called(undone(1, name(1, 1)), 3, d.count(3)+1, 5)}
				n, e := h.Hear(l)
				wantBoth(t, "Hear", n, e, d.hear(l), api.OK)
			default:
				n := someNote(r)
				_, e := h.Do(n)
				wantSame(t, "Do", e, d.do(n))
			}
			wantSame(t, "Notes", h.Notes(), d.set())
			if t.Failed() {
				return
			}
		}
	}
}
