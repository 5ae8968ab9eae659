package register

import (
	"slices"

	"noctuary/api"
	"noctuary/keys"
	"noctuary/sheets"
)

// CheckNote returns OK if a note is well-formed.
func CheckNote(b api.Base, n api.Note) api.Errno {
	if e := CheckBase(b); e != api.OK {
		return e
	}
	if !isWellFormed(b, n) {
		return api.ErrNote
	}
	return api.OK
}

// Before reports whether a note takes effect ahead of another one.
func Before(a, b api.Note) bool { return byEffect(a, b) < 0 }

func byEffect(a, b api.Note) int {
	return slices.Compare([]int{a.Day, a.Clock, a.House, a.Num}, []int{b.Day, b.Clock, b.House, b.Num})
}

func byName(a, b api.Name) int {
	return slices.Compare([]int{a.House, a.Num}, []int{b.House, b.Num})
}

func nameOf(n api.Note) api.Name { return api.Name{House: n.House, Num: n.Num} }

// isWellFormed reports whether a note is well-formed for a base, which is valid.
func isWellFormed(b api.Base, n api.Note) bool {
	if !isName(nameOf(n)) || !between(n.Clock, 1, api.MaxClock) || !isDay(n.Day) {
		return false
	}
	c, known := contentOf(n)
	if !known {
		return false
	}
	only := c.alone()
	only.House, only.Num, only.Clock, only.Day, only.Kind = n.House, n.Num, n.Clock, n.Day, n.Kind
	return c.isRight(b) && sameNote(n, only)
}

// content is what a note has besides its name, Clock, Day and Kind.
type content interface {
	// isRight reports whether the fields that the note's kind uses are as they must be.
	isRight(b api.Base) bool
	// alone returns a note that has these fields and no others.
	alone() api.Note
}

// Notes as the content of their kinds.
type (
	sheetContent    api.Note
	lineContent     api.Note
	nameContent     api.Note
	voucherContent  api.Note
	changeContent   api.Note
	seriesContent   api.Note
	withdrawContent api.Note
)

// contentOf returns the content of a note, if there is such a kind.
func contentOf(n api.Note) (c content, known bool) {
	switch n.Kind {
	case api.NoteSheet:
		return sheetContent(n), true
	case api.NoteAccept, api.NoteQuery, api.NoteReject:
		return lineContent(n), true
	case api.NoteName:
		return nameContent(n), true
	case api.NoteVoucher:
		return voucherContent(n), true
	case api.NoteChange:
		return changeContent(n), true
	case api.NoteSeries:
		return seriesContent(n), true
	case api.NoteWithdraw:
		return withdrawContent(n), true
	}
	return nil, false
}

func (n sheetContent) isRight(b api.Base) bool {
	if !isSheet(n.Sheet) {
		return false
	}
	if _, e := sheets.PowerOf(b.Lamps, n.Sheet.Lamp); e != api.OK {
		return false
	}
	for _, l := range n.Sheet.Lines {
		if len(l.Seen) > 0 && !isSeen(b, l.Seen) {
			return false
		}
	}
	return true
}

func (n sheetContent) alone() api.Note { return api.Note{Sheet: n.Sheet} }

func (n lineContent) isRight(api.Base) bool {
	return isName(n.Ref) && between(n.Line, 0, api.MaxLines-1)
}

func (n lineContent) alone() api.Note { return api.Note{Ref: n.Ref, Line: n.Line} }

func (n nameContent) isRight(b api.Base) bool {
	return lineContent(n).isRight(b) && isList(n.Names)
}

func (n nameContent) alone() api.Note {
	return api.Note{Ref: n.Ref, Line: n.Line, Names: n.Names}
}

func (n voucherContent) isRight(b api.Base) bool {
	return lineContent(n).isRight(b) && isSeen(b, n.Seen)
}

func (n voucherContent) alone() api.Note {
	return api.Note{Ref: n.Ref, Line: n.Line, Seen: n.Seen}
}

func (n changeContent) isRight(api.Base) bool {
	return isYear(n.Change.Year) && isList(n.Change.From) && isList(n.Change.To)
}

func (n changeContent) alone() api.Note { return api.Note{Change: n.Change} }

func (n seriesContent) isRight(api.Base) bool {
	s := n.Series
	return isID(s.Observer) && isID(s.Said) && isID(s.Name) && isYear(s.Year) &&
		isDay(s.From) && isDay(s.To) && s.From <= s.To && isCount(s.Count)
}

func (n seriesContent) alone() api.Note { return api.Note{Series: n.Series} }

func (n withdrawContent) isRight(api.Base) bool { return isName(n.Ref) }

func (n withdrawContent) alone() api.Note { return api.Note{Ref: n.Ref} }

// isName reports whether the name of a note is right.
func isName(x api.Name) bool {
	return between(x.House, 1, api.MaxHouses) && between(x.Num, 1, api.MaxNotes)
}

// isSheet reports whether a sheet is valid.
func isSheet(s api.Sheet) bool {
	e, _ := sheets.Check(s)
	return e == api.OK
}

// isSeen reports whether a list is what was seen for the matrix of a base, which is valid. The matrix is handed on without its rows, which do not matter for that: otherwise they would all be checked again for each line.
func isSeen(b api.Base, seen []int) bool {
	return keys.ValidSeen(api.Matrix{States: b.Matrix.States}, seen)
}

// isCount reports whether a span can be a count.
func isCount(x api.Span) bool {
	return 0 <= x.Lo && x.Lo <= x.Hi && x.Hi <= api.MaxCount
}

// isList reports whether a list has names, in order, and neither none nor too many.
func isList(l []int) bool {
	if len(l) == 0 || len(l) > api.MaxList {
		return false
	}
	last := 0
	for _, name := range l {
		if name <= last || !isID(name) {
			return false
		}
		last = name
	}
	return true
}
