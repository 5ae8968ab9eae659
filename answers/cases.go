package answers

import (
	"noctuary/api"
	"noctuary/keys"
	"noctuary/names"
	"noctuary/places"
)

// reading is a valid case, with what is looked up in it again and again.
type reading struct {
	api.Case
	lists
	powers  map[int]int      // of the lamps, by their ID
	catches map[api.Name]int // the index of the catch of each sheet
}

// demand is what a function asks of an argument beside a valid case.
type demand func(r reading) bool

// open returns the reading of a case, if the case is valid and the demands are met.
func open(c api.Case, demands ...demand) (reading, api.Errno) {
	if e := checkBooks(c); e != api.OK {
		return reading{}, e
	}
	r := reading{Case: c, lists: listsOf(c.Book), powers: map[int]int{}, catches: map[api.Name]int{}}
	if !r.readLamps() || !r.readCatches() || !r.areRecords() || !r.areSeries() {
		return reading{}, api.ErrCase
	}
	for _, isMet := range demands {
		if !isMet(r) {
			return reading{}, api.ErrArg
		}
	}
	return r, api.OK
}

// checkBooks returns what is wrong with the book of names of a case, or with its matrix.
func checkBooks(c api.Case) api.Errno {
	if e, _ := names.Check(c.Book); e != api.OK {
		return e
	}
	if _, e := names.Count(c.Book); e != api.OK {
		return e
	}
	return keys.CheckMatrix(c.Matrix)
}

// readLamps writes down the powers of the lamps, and reports whether they are valid.
func (r reading) readLamps() bool {
	if len(r.Lamps) > api.MaxLamps {
		return false
	}
	last := 0
	for _, x := range r.Lamps {
		if x.ID <= last || !isID(x.ID) || !between(x.Power, 1, api.MaxPower) {
			return false
		}
		r.powers[x.ID] = x.Power
		last = x.ID
	}
	return true
}

// readCatches writes down where the catches are, and reports whether they are valid.
func (r reading) readCatches() bool {
	if len(r.Catches) > api.MaxNotes {
		return false
	}
	for i, x := range r.Catches {
		if _, twice := r.catches[x.Sheet]; twice || !r.isCatch(x) {
			return false
		}
		r.catches[x.Sheet] = i
	}
	return true
}

func (r reading) isCatch(x api.Catch) bool {
	_, isLamp := r.powers[x.Lamp]
	return isLamp && isSheet(x.Sheet) && isID(x.Observer) && isSmall(x.Square) && isNight(x.Night) && isCount(x.Total)
}

// line is what no two records have in common.
type line struct {
	sheet  api.Name
	number int
}

func (r reading) areRecords() bool {
	if len(r.Records) > api.MaxRecords {
		return false
	}
	told := map[line]bool{}
	for _, x := range r.Records {
		at := line{sheet: x.Sheet, number: x.Line}
		if told[at] || !r.isRecord(x) {
			return false
		}
		told[at] = true
	}
	return true
}

func (r reading) isRecord(x api.Record) bool {
	_, isCaught := r.catches[x.Sheet]
	return isCaught && between(x.Line, 0, api.MaxLines-1) && between(x.State, api.StateOpen, api.StateRejected) &&
		isCount(x.Count) && isIncreasing(x.Names) && r.haveNames(x.Year, x.Said) && r.haveNames(x.Year, x.Names...) &&
		r.areSeen(x.Seen)
}

// areSeen reports whether each element of a list is what was seen. It does not depend on the rows of the matrix, which would be checked with each of them.
func (r reading) areSeen(l [][]int) bool {
	if len(l) > api.MaxNotes {
		return false
	}
	m := api.Matrix{States: r.Matrix.States}
	for _, seen := range l {
		if !keys.ValidSeen(m, seen) {
			return false
		}
	}
	return true
}

func (r reading) areSeries() bool {
	if len(r.Series) > api.MaxNotes {
		return false
	}
	for _, x := range r.Series {
		if !isID(x.Observer) || !areNights(nightsOf(x)) || !isCount(x.Count) || !r.haveNames(x.Year, x.Said, x.Name) {
			return false
		}
	}
	return true
}

func ofRecord(i int) demand {
	return func(r reading) bool { return between(i, 0, len(r.Records)-1) }
}

func ofName(name int) demand {
	return func(r reading) bool { return r.hasNow(name) }
}

func ofRegion(region []api.Square) demand {
	return func(reading) bool { return places.ValidRegion(region) }
}

func ofNights(nights api.Span) demand {
	return func(reading) bool { return areNights(nights) }
}

// catchOf returns the catch of a record.
func (r reading) catchOf(record int) api.Catch {
	return r.Catches[r.catches[r.Records[record].Sheet]]
}

func isSheet(n api.Name) bool {
	return between(n.House, 1, api.MaxHouses) && between(n.Num, 1, api.MaxNotes)
}

func isID(n int) bool { return between(n, 1, api.MaxID) }

func isSmall(s api.Square) bool { return s.Level == 0 && places.ValidSquare(s) }

func isNight(n int) bool { return between(n, 0, api.MaxDay) }

func areNights(s api.Span) bool { return isNight(s.Lo) && isNight(s.Hi) && s.Lo <= s.Hi }

func nightsOf(x api.Series) api.Span { return api.Span{Lo: x.From, Hi: x.To} }

func isCount(s api.Span) bool { return 0 <= s.Lo && s.Lo <= s.Hi && s.Hi <= api.MaxCount }

func isIncreasing(l []int) bool {
	for i := range l {
		if i > 0 && l[i-1] >= l[i] {
			return false
		}
	}
	return true
}

func between(n, least, greatest int) bool { return least <= n && n <= greatest }
