package atlas_test

import (
	"maps"
	"math/rand/v2"
	"slices"
	"testing"

	"noctuary/api"
	"noctuary/atlas"
	"noctuary/names"
	"noctuary/places"
	"noctuary/posts"
	"noctuary/register"
)

// evening is a sheet, with how many moths of each fate (by its index) its lines really tell of.
type evening struct {
	sheet api.Sheet
	lines []map[int]int
}

// nature is how the moths really were.
type nature struct {
	book     api.NameBook
	fates    [][]int
	base     api.Base
	evenings map[api.Name]evening // by the note
}

// someNature returns a base in whose book nothing changes any more, and no moths.
func someNature(r *rand.Rand) nature {
	b := someBase(r)
	b.Lamps = []api.Lamp{{ID: 7, Power: 100}}
	fates, _ := names.Fates(b.Book)
	return nature{book: b.Book, fates: fates, base: b, evenings: map[api.Name]evening{}}
}

// now returns the name of a fate at the last version.
func (x nature) now(fate int) int { return x.fates[fate][len(x.book.Changes)] }

// then returns its name by the list of a year.
func (x nature) then(fate, year int) int {
	v, _ := names.VersionOf(x.book, year)
	return x.fates[fate][v]
}

// around is any count with a number.
func around(r *rand.Rand, n int) api.Span { return span(max(0, n-r.IntN(3)), n+r.IntN(3)) }

// someLine returns a line with what it tells of, and the names of which one is that of each moth.
func (x nature) someLine(r *rand.Rand, year int, misnamed bool) (l api.Line, moths map[int]int, really []int) {
	all := namesOfYear(x.book, year)
	l.Name = pick(r, all...)
	really = []int{l.Name}
	if misnamed && r.IntN(2) == 0 {
		really = someOf(r, all)
	}
	moths = map[int]int{}
	n := r.IntN(4)
	for range n {
		for {
			fate := r.IntN(len(x.fates))
			if slices.Contains(really, x.then(fate, year)) {
				moths[fate]++
				break
			}
		}
	}
	l.Count = around(r, n)
	return l, moths, really
}

// voucher returns what may be seen of some moths together: a state of each of them.
func (x nature) voucher(r *rand.Rand, moths map[int]int) []int {
	seen := 0
	for _, fate := range slices.Sorted(maps.Keys(moths)) {
		may := 3
		for _, row := range x.base.Matrix.Rows {
			if row.Name == x.now(fate) {
				may = row.May[0]
			}
		}
		if may == 3 {
			may = 1 + r.IntN(2)
		}
		seen |= may
	}
	if seen == 0 {
		seen = 1 + r.IntN(3)
	}
	return []int{seen}
}

// someEvening returns a sheet of a night, and notes about its lines, which need the sheet's name as Ref.
func (x nature) someEvening(r *rand.Rand, night int, misnamed bool) (evening, []api.Note) {
	s := api.Sheet{Observer: 1 + r.IntN(2), Year: r.IntN(3), Square: pick(r, append(smallSquares(x.base.County), square(20, 20))...), Night: night, Lamp: 7}
	out := evening{}
	var about []api.Note
	told := r.IntN(3)
	for line := range r.IntN(4) {
		l, moths, really := x.someLine(r, s.Year, misnamed)
		n := 0
		for _, k := range moths {
			n += k
		}
		told += n
		if !slices.Equal(really, []int{l.Name}) {
			about = append(about, api.Note{Kind: api.NoteName, Line: line, Names: really})
		}
		switch r.IntN(6) {
		case 0:
			l.Seen = x.voucher(r, moths)
		case 1:
			about = append(about, api.Note{Kind: api.NoteVoucher, Line: line, Seen: x.voucher(r, moths)})
		case 2:
			about = append(about, api.Note{Kind: pick(r, api.NoteAccept, api.NoteQuery), Line: line})
		case 3:
			if n == 0 {
				about = append(about, api.Note{Kind: api.NoteReject, Line: line})
			}
		}
		s.Lines, out.lines = append(s.Lines, l), append(out.lines, moths)
	}
	s.Total = around(r, told)
	out.sheet = s
	return out, about
}

// real is how a name really was, as far as records tell of it.
type real struct {
	count       int
	first, last int // -1, if it was not
	squares     []api.Square
}

// realOf returns how a name really was by the catches of a register.
func (x nature) realOf(reg api.Register, name int) real {
	out := real{first: -1, last: -1}
	for _, c := range reg.Catches {
		for _, moths := range x.evenings[c.Sheet].lines {
			for fate, n := range moths {
				if x.now(fate) != name || n == 0 {
					continue
				}
				out.count += n
				out.last = max(out.last, c.Night)
				if out.first < 0 || c.Night < out.first {
					out.first = c.Night
				}
				out.squares = append(out.squares, c.Square)
			}
		}
	}
	return out
}

// wantReal checks that an atlas of a register contains how the moths really were.
func (x nature) wantReal(t *testing.T, got api.Atlas, reg api.Register) {
	t.Helper()
	if got.Trouble != api.OK {
		t.Fatalf("an atlas of true notes tells a clash: %v", got)
	}
	for _, a := range got.Answers {
		was := x.realOf(reg, a.Name)
		if was.count < a.Count.Lo || was.count > a.Count.Hi {
			t.Errorf("there were %d of %d; it is told: %v", was.count, a.Name, a.Count)
		}
		if was.count > 0 && (was.first < a.First.Lo || a.First.Lo < 0 || a.First.Hi >= 0 && was.first > a.First.Hi) {
			t.Errorf("the first night of %d was %d; it is told: %v", a.Name, was.first, a.First)
		}
		if was.count > 0 && (was.last > a.Last.Hi || was.last < a.Last.Lo) {
			t.Errorf("the last night of %d was %d; it is told: %v", a.Name, was.last, a.Last)
		}
		if was.count == 0 && (a.First.Hi >= 0 || a.Last.Lo >= 0) {
			t.Errorf("%d was never; it is told: %v, %v", a.Name, a.First, a.Last)
		}
		for _, s := range was.squares {
			if is, _ := places.Has(a.May, s); !is {
				t.Errorf("%d was in %v; it is told that it was in %v at most", a.Name, s, a.May)
			}
		}
		for _, s := range smallSquares(a.Sure) {
			if !slices.Contains(was.squares, s) {
				t.Errorf("%d was not in %v; it is told that it surely was", a.Name, s)
			}
		}
	}
}

// someSeries returns notes of series that are true of all evenings, no two of them of the same moths.
func (x nature) someSeries(r *rand.Rand) []api.Note {
	var out []api.Note
	known := map[[4]int]bool{}
	sheets := slices.SortedFunc(maps.Keys(x.evenings), func(a, b api.Name) int { return a.Num - b.Num })
	for _, sheet := range sheets {
		e := x.evenings[sheet]
		for _, l := range e.sheet.Lines {
			s := api.Series{Observer: e.sheet.Observer, Said: l.Name, Year: e.sheet.Year, From: r.IntN(20), To: 20 + r.IntN(60), Name: pick(r, namesOfYear(x.book, e.sheet.Year)...)}
			key := [4]int{s.Observer, s.Said, s.Year, s.Name}
			if known[key] || r.IntN(2) == 0 {
				continue
			}
			known[key] = true
			s.Count = around(r, x.inSeries(s))
			out = append(out, api.Note{Kind: api.NoteSeries, Series: s})
		}
	}
	return out
}

// inSeries returns how many moths of a series were of its name.
func (x nature) inSeries(s api.Series) int {
	n := 0
	for _, e := range x.evenings {
		if e.sheet.Observer != s.Observer || e.sheet.Year != s.Year || e.sheet.Night < s.From || e.sheet.Night > s.To {
			continue
		}
		for i, l := range e.sheet.Lines {
			for fate, k := range e.lines[i] {
				if l.Name == s.Said && x.then(fate, s.Year) == s.Name {
					n += k
				}
			}
		}
	}
	return n
}

// P10.4: all that true notes tell contains how the moths really were.
func TestAsItReallyWas(t *testing.T) {
	r := random()
	series := 0
	for range 400 {
		x := someNature(r)
		var notes []api.Note
		add := func(n api.Note) api.Name {
			n.House, n.Num, n.Clock, n.Day = 1, len(notes)+1, len(notes)+1, r.IntN(9)
			notes = append(notes, n)
			return at(n.Num)
		}
		for i := range 1 + r.IntN(6) {
			e, about := x.someEvening(r, 10*i+r.IntN(10), true)
			ref := add(api.Note{Kind: api.NoteSheet, Sheet: e.sheet})
			x.evenings[ref] = e
			for _, n := range about {
				n.Ref = ref
				last := add(n)
				if n.Kind != api.NoteName && r.IntN(5) == 0 {
					add(api.Note{Kind: api.NoteWithdraw, Ref: last})
				}
			}
		}
		for _, n := range x.someSeries(r) {
			series++
			add(n)
		}
		reg, e := register.Fold(x.base, notes)
		if e != api.OK || len(reg.Conflicts) > 0 {
			t.Fatalf("Fold: conflicts %v, error %d", reg.Conflicts, e)
		}
		x.wantReal(t, mustBuild(t, x.base, reg, nil), reg)
	}
	if series < 100 {
		t.Errorf("only %d series", series)
	}
}

// farm is a world of houses, in which moths were as they were.
type farm struct {
	nature
	w     *posts.World
	night int
}

// do lets a house do a note, and returns its name.
func (f *farm) do(house int, n api.Note) (api.Name, api.Errno) {
	if e := f.w.Step(api.Act{Kind: api.ActDo, House: house, Note: n}); e != api.OK {
		return api.Name{}, e
	}
	l, _ := f.w.Notes(house)
	num := 0
	for _, x := range l {
		if x.House == house {
			num++
		}
	}
	return api.Name{House: house, Num: num}, api.OK
}

// catch lets a house write down an evening, and any house judge it as far as it knows of it.
func (f *farm) catch(r *rand.Rand) {
	f.night += 1 + r.IntN(3)
	e, about := f.someEvening(r, f.night, false)
	house := 1 + r.IntN(3)
	ref, err := f.do(house, api.Note{Kind: api.NoteSheet, Day: r.IntN(9), Sheet: e.sheet})
	if err != api.OK {
		return
	}
	f.evenings[ref] = e
	for _, n := range about {
		n.Ref, n.Day = ref, r.IntN(9)
		f.do(pick(r, house, 1, 2, 3), n)
	}
}

// happen lets anything happen in the world.
func (f *farm) happen(r *rand.Rand) {
	switch r.IntN(8) {
	case 0, 1, 2:
		f.catch(r)
	case 3:
		f.w.Step(api.Act{Kind: api.ActSync, House: 1 + r.IntN(3)})
	case 4:
		f.w.Step(api.Act{Kind: api.ActPost, House: 1 + r.IntN(3), To: 1 + r.IntN(3)})
	case 5:
		f.w.Step(api.Act{Kind: pick(r, api.ActDeliver, api.ActDeliver, api.ActLose, api.ActDouble), Index: r.IntN(3)})
	case 6:
		f.w.Step(api.Act{Kind: api.ActCrash, House: 1 + r.IntN(3), Keep: r.IntN(1 << 20), Flip: r.IntN(3) - 1, Index: r.IntN(33)})
	case 7:
		l, _ := f.w.Notes(1 + r.IntN(3))
		for _, n := range l {
			if n.Kind > api.NoteSheet && n.Kind < api.NoteChange && r.IntN(9) == 0 {
				f.do(1+r.IntN(3), api.Note{Kind: api.NoteWithdraw, Ref: api.Name{House: n.House, Num: n.Num}})
			}
		}
	}
}

// newFarm returns a world of three houses, all of which know of the changes that are notes.
func newFarm(t *testing.T, r *rand.Rand) *farm {
	t.Helper()
	f := &farm{nature: someNature(r)}
	later := f.base.Book.Changes
	f.base.Book.Changes = nil
	if len(later) > 0 && r.IntN(2) == 0 {
		f.base.Book.Changes, later = later[:1], later[1:]
	}
	f.base.Houses = 3
	w, e := posts.NewWorld(f.base, 3)
	if e != api.OK {
		t.Fatalf("NewWorld: error %d", e)
	}
	f.w = w
	for _, x := range later {
		if _, e := f.do(2, api.Note{Kind: api.NoteChange, Change: x}); e != api.OK {
			t.Fatalf("the change %v: error %d", x, e)
		}
	}
	f.w.Settle()
	return f
}

// P10.7: behind settling all houses have one register and one atlas, which contains how the moths really were, and can be checked alone.
func TestWhole(t *testing.T) {
	r := random()
	evenings := 0
	for range 120 {
		f := newFarm(t, r)
		for range 12 + r.IntN(30) {
			f.happen(r)
		}
		if e := f.w.Settle(); e != api.OK {
			t.Fatalf("Settle: error %d", e)
		}
		var first api.Atlas
		for house := 1; house <= 3; house++ {
			l, _ := f.w.Notes(house)
			reg, e := register.Fold(f.base, l)
			if e != api.OK {
				t.Fatalf("Fold: error %d", e)
			}
			x := mustBuild(t, f.base, reg, nil)
			f.wantReal(t, x, reg)
			code, _ := atlas.Encode(x)
			y, _ := atlas.Decode(code)
			wantFaults(t, "what was read", y, nil)
			if house == 1 {
				first = x
				evenings += len(reg.Catches)
			}
			differ, e := atlas.Compare(first, x)
			want(t, "the names in which two houses differ", differ, e, nil)
			x.Answers, y.Answers = plainOf(x), plainOf(first)
			x.Cut, y.Cut = nil, nil
			wantSame(t, "the atlas of a house", x, y)
		}
	}
	if evenings < 500 {
		t.Errorf("only %d evenings are told", evenings)
	}
}
