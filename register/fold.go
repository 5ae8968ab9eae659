package register

import (
	"iter"
	"slices"

	"noctuary/api"
	"noctuary/names"
)

// Rounds in which notes take effect.
const (
	bookRound = iota
	sheetRound
	lineRound
)

// Fold returns the register of a set.
func Fold(b api.Base, l []api.Note) (api.Register, api.Errno) {
	if e := checkSets(b, l); e != api.OK {
		return api.Register{}, e
	}
	return fold(b, setOf(l)), api.OK
}

// AsOf returns the register of what was done by a day as it was known at a time.
func AsOf(b api.Base, l []api.Note, day, clock int) (api.Register, api.Errno) {
	if e := checkSets(b, l); e != api.OK {
		return api.Register{}, e
	}
	var known []api.Note
	for _, n := range l {
		if n.Day <= day && n.Clock <= clock {
			known = append(known, n)
		}
	}
	return fold(b, setOf(known)), api.OK
}

// BookOf returns the book of names.
func BookOf(b api.Base, l []api.Note) (api.NameBook, api.Errno) {
	r, e := Fold(b, l)
	return r.Book, e
}

// fold is Fold of a set for a base that is valid.
func fold(b api.Base, s set) api.Register {
	d := draftOf(b)
	todo := effects()
	for round := range s.rounds(todo) {
		for _, n := range round {
			if !todo[n.Kind].do(d, n) {
				d.made.Conflicts = append(d.made.Conflicts, nameOf(n))
			}
		}
	}
	d.made.Conflicts = append(d.made.Conflicts, s.futile()...)
	slices.SortFunc(d.made.Conflicts, byName)
	return d.made
}

// rounds yields the notes that count, round by round, each round in the order in which they take effect.
func (s set) rounds(todo map[int]effect) iter.Seq[[]api.Note] {
	return func(yield func([]api.Note) bool) {
		counting := s.counting()
		for round := bookRound; round <= lineRound; round++ {
			var l []api.Note
			for _, name := range counting {
				if n := s[name]; todo[n.Kind].round == round {
					l = append(l, n)
				}
			}
			if !yield(l) {
				return
			}
		}
	}
}

// effect is in which round notes of a kind take effect, and how. The function do returns false if the note is a conflict.
type effect struct {
	round int
	do    func(d *draft, n api.Note) bool
}

// effects returns the effect of each kind of notes that count.
func effects() map[int]effect {
	return map[int]effect{
		api.NoteChange:  {round: bookRound, do: (*draft).change},
		api.NoteSheet:   {round: sheetRound, do: (*draft).addSheet},
		api.NoteAccept:  {round: lineRound, do: judgement(api.StateAccepted)},
		api.NoteQuery:   {round: lineRound, do: judgement(api.StateQueried)},
		api.NoteReject:  {round: lineRound, do: judgement(api.StateRejected)},
		api.NoteName:    {round: lineRound, do: (*draft).rename},
		api.NoteVoucher: {round: lineRound, do: (*draft).addVoucher},
		api.NoteSeries:  {round: lineRound, do: (*draft).addSeries},
	}
}

// draft is a register in the making.
type draft struct {
	made    api.Register
	visits  map[visit]bool // those of the catches
	records map[place]int  // the indices of the records of lines
	lists   map[int][]int  // by the year: the names of its version, as far as they were asked for
}

// place is a line of a sheet.
type place struct {
	sheet api.Name
	line  int
}

// draftOf returns the register of no notes.
func draftOf(b api.Base) *draft {
	return &draft{
		made:    api.Register{Book: copyOfBook(b.Book)},
		visits:  map[visit]bool{},
		records: map[place]int{},
		lists:   map[int][]int{},
	}
}

func (d *draft) change(n api.Note) bool {
	book, e := names.Apply(d.made.Book, n.Change)
	if e != api.OK {
		return false
	}
	d.made.Book = book
	return true
}

func (d *draft) addSheet(n api.Note) bool {
	s := n.Sheet
	if d.visits[visitOf(s)] {
		return false
	}
	d.visits[visitOf(s)] = true
	d.made.Catches = append(d.made.Catches, api.Catch{
		Sheet: nameOf(n), Observer: s.Observer, Square: s.Square, Night: s.Night, Lamp: s.Lamp, Total: s.Total,
	})
	all := true
	for i, l := range s.Lines {
		if !d.has(s.Year, l.Name) {
			all = false
			continue
		}
		d.addRecord(place{sheet: nameOf(n), line: i}, s.Year, l)
	}
	return all
}

func (d *draft) addRecord(at place, year int, l api.Line) {
	r := api.Record{Sheet: at.sheet, Line: at.line, State: api.StateOpen, Said: l.Name, Year: year, Count: l.Count}
	if len(l.Seen) > 0 {
		r.Seen = [][]int{copyOfList(l.Seen)}
	}
	d.records[at] = len(d.made.Records)
	d.made.Records = append(d.made.Records, r)
}

// judgement returns the effect of a note that gives a state to a record.
func judgement(state int) func(d *draft, n api.Note) bool {
	return func(d *draft, n api.Note) bool {
		r, found := d.recordOf(n)
		if found {
			r.State = state
		}
		return found
	}
}

func (d *draft) rename(n api.Note) bool {
	r, found := d.recordOf(n)
	if !found || !d.has(r.Year, n.Names...) {
		return false
	}
	r.Names = copyOfList(n.Names)
	return true
}

func (d *draft) addVoucher(n api.Note) bool {
	r, found := d.recordOf(n)
	if found {
		r.Seen = append(r.Seen, copyOfList(n.Seen))
	}
	return found
}

func (d *draft) addSeries(n api.Note) bool {
	if !d.has(n.Series.Year, n.Series.Said, n.Series.Name) {
		return false
	}
	d.made.Series = append(d.made.Series, n.Series)
	return true
}

// recordOf returns the record of the line that a note is about, if there is one.
func (d *draft) recordOf(n api.Note) (r *api.Record, found bool) {
	i, found := d.records[place{sheet: n.Ref, line: n.Line}]
	if !found {
		return nil, false
	}
	return &d.made.Records[i], true
}

// has reports whether the version of a year has all of some names.
func (d *draft) has(year int, some ...int) bool {
	list := d.list(year)
	for _, name := range some {
		if _, found := slices.BinarySearch(list, name); !found {
			return false
		}
	}
	return true
}

// list returns the names of the version of a year. It is asked for behind the first round only, when the book does not change any more.
func (d *draft) list(year int) []int {
	if l, asked := d.lists[year]; asked {
		return l
	}
	v, _ := names.VersionOf(d.made.Book, year)
	l, _ := names.Names(d.made.Book, v)
	d.lists[year] = l
	return l
}
