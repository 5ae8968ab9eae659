package register

import (
	"slices"

	"noctuary/api"
)

// copies returns the elements of a list, each in memory of its own.
func copies[T any](l []T, copyOf func(T) T) []T {
	out := make([]T, 0, len(l))
	for _, x := range l {
		out = append(out, copyOf(x))
	}
	return out
}

func copyOfList(l []int) []int { return slices.Clone(l) }

func copyOfNote(n api.Note) api.Note {
	out := n
	out.Sheet.Lines = copies(n.Sheet.Lines, copyOfLine)
	out.Names, out.Seen = copyOfList(n.Names), copyOfList(n.Seen)
	out.Change = copyOfChange(n.Change)
	return out
}

func copyOfLine(l api.Line) api.Line {
	return api.Line{Name: l.Name, Count: l.Count, Seen: copyOfList(l.Seen)}
}

func copyOfChange(x api.Change) api.Change {
	return api.Change{Year: x.Year, From: copyOfList(x.From), To: copyOfList(x.To)}
}

func copyOfBook(b api.NameBook) api.NameBook {
	return api.NameBook{First: copyOfList(b.First), Changes: copies(b.Changes, copyOfChange)}
}

func copyOfMatrix(m api.Matrix) api.Matrix {
	return api.Matrix{States: copyOfList(m.States), Rows: copies(m.Rows, copyOfRow)}
}

func copyOfRow(r api.Row) api.Row {
	return api.Row{Name: r.Name, May: copyOfList(r.May)}
}

func copyOfRule(r api.Rule) api.Rule {
	out := r
	out.Region = slices.Clone(r.Region)
	return out
}

func copyOfRecord(r api.Record) api.Record {
	out := r
	out.Names, out.Seen = copyOfList(r.Names), copies(r.Seen, copyOfList)
	return out
}

// head is what a note has besides its sheet, its change and its lists.
type head struct {
	name, ref              api.Name
	clock, day, kind, line int
	series                 api.Series
}

func headOf(n api.Note) head {
	return head{name: nameOf(n), ref: n.Ref, clock: n.Clock, day: n.Day, kind: n.Kind, line: n.Line, series: n.Series}
}

// sameNote reports whether two notes are equal.
func sameNote(a, b api.Note) bool {
	return headOf(a) == headOf(b) && sameSheet(a.Sheet, b.Sheet) && sameChange(a.Change, b.Change) &&
		slices.Equal(a.Names, b.Names) && slices.Equal(a.Seen, b.Seen)
}

func sameSheet(a, b api.Sheet) bool {
	return visitOf(a) == visitOf(b) && a.Year == b.Year && a.Lamp == b.Lamp && a.Total == b.Total &&
		slices.EqualFunc(a.Lines, b.Lines, sameLine)
}

func sameLine(a, b api.Line) bool {
	return a.Name == b.Name && a.Count == b.Count && slices.Equal(a.Seen, b.Seen)
}

func sameChange(a, b api.Change) bool {
	return a.Year == b.Year && slices.Equal(a.From, b.From) && slices.Equal(a.To, b.To)
}
