package posts

import (
	"noctuary/api"
	"noctuary/codes"
)

// codeOf returns the encoding of a note, which is well-formed.
func codeOf(n api.Note) []byte {
	l, _ := codes.Code[api.Note](noteCode).Write(n)
	return l
}

// noteOf returns the note of which bytes are the encoding, well-formed or not.
func noteOf(l []byte) (n api.Note, right bool) {
	return codes.Code[api.Note](noteCode).Read(l)
}

// copyOf returns a note, which is well-formed, in new memory.
func copyOf(n api.Note) api.Note {
	out, _ := noteOf(codeOf(n))
	return out
}

func noteCode(s codes.Scribe, n *api.Note) {
	codes.Numbers(s, &n.House, &n.Num, &n.Clock, &n.Day, &n.Kind)
	sheetCode(s, &n.Sheet)
	codes.Numbers(s, &n.Ref.House, &n.Ref.Num, &n.Line)
	codes.List(s, &n.Names)
	codes.List(s, &n.Seen)
	s.Number(&n.Change.Year)
	codes.List(s, &n.Change.From)
	codes.List(s, &n.Change.To)
	seriesCode(s, &n.Series)
}

func sheetCode(s codes.Scribe, x *api.Sheet) {
	codes.Numbers(s, &x.Observer, &x.Year, &x.Square.Level, &x.Square.X, &x.Square.Y, &x.Night, &x.Lamp, &x.Total.Lo, &x.Total.Hi)
	codes.Elements(s, &x.Lines, lineCode)
}

func lineCode(s codes.Scribe, l *api.Line) {
	codes.Numbers(s, &l.Name, &l.Count.Lo, &l.Count.Hi)
	codes.List(s, &l.Seen)
}

func seriesCode(s codes.Scribe, x *api.Series) {
	codes.Numbers(s, &x.Observer, &x.Said, &x.Year, &x.From, &x.To, &x.Name, &x.Count.Lo, &x.Count.Hi)
}
