package atlas

import (
	"noctuary/api"
	"noctuary/codes"
)

const (
	hashStart = 17
	hashStep  = 271
	hashPrime = 2147483587
)

// Hash returns the hash of bytes.
func Hash(b []byte) int {
	h := hashStart
	for _, x := range b {
		h = (hashStep*h + int(x) + 1) % hashPrime
	}
	return h
}

// Encode returns an atlas as bytes.
func Encode(x api.Atlas) ([]byte, api.Errno) {
	b, right := codes.Code[api.Atlas](atlasCode).Write(x)
	if !right {
		return nil, api.ErrLimit
	}
	return b, api.OK
}

// Decode returns the atlas of which bytes are the encoding.
func Decode(b []byte) (api.Atlas, api.Errno) {
	x, right := codes.Code[api.Atlas](atlasCode).Read(b)
	if !right {
		return api.Atlas{}, api.ErrBytes
	}
	return x, api.OK
}

// copyOfBase returns a base, which is valid, in new memory.
func copyOfBase(b api.Base) api.Base {
	code := codes.Code[api.Base](baseCode)
	l, _ := code.Write(b)
	out, _ := code.Read(l)
	return out
}

func atlasCode(s codes.Scribe, x *api.Atlas) {
	baseCode(s, &x.Base)
	caseCode(s, &x.Case)
	codes.Elements(s, &x.Answers, answerCode)
	codes.Elements(s, &x.Maps, mapCode)
	codes.List(s, &x.Held)
	codes.List(s, &x.Clash)
	codes.List(s, &x.Cut)
	s.Number((*int)(&x.Trouble))
}

func baseCode(s codes.Scribe, b *api.Base) {
	listsCode(s, &b.Book, &b.Matrix, &b.Rules, &b.Lamps)
	squaresCode(s, &b.County)
	codes.Elements(s, &b.Licences, licenceCode)
	s.Number(&b.Houses)
}

func caseCode(s codes.Scribe, c *api.Case) {
	listsCode(s, &c.Book, &c.Matrix, &c.Rules, &c.Lamps)
	codes.Elements(s, &c.Catches, catchCode)
	codes.Elements(s, &c.Records, recordCode)
	codes.Elements(s, &c.Series, seriesCode)
}

// listsCode is for what a base and a case have in common.
func listsCode(s codes.Scribe, book *api.NameBook, matrix *api.Matrix, rules *[]api.Rule, lamps *[]api.Lamp) {
	bookCode(s, book)
	matrixCode(s, matrix)
	codes.Elements(s, rules, ruleCode)
	codes.Elements(s, lamps, lampCode)
}

func bookCode(s codes.Scribe, b *api.NameBook) {
	codes.List(s, &b.First)
	codes.Elements(s, &b.Changes, changeCode)
}

func changeCode(s codes.Scribe, x *api.Change) {
	s.Number(&x.Year)
	codes.List(s, &x.From)
	codes.List(s, &x.To)
}

func matrixCode(s codes.Scribe, m *api.Matrix) {
	codes.List(s, &m.States)
	codes.Elements(s, &m.Rows, rowCode)
}

func rowCode(s codes.Scribe, r *api.Row) {
	s.Number(&r.Name)
	codes.List(s, &r.May)
}

func ruleCode(s codes.Scribe, r *api.Rule) {
	s.Number(&r.Name)
	squaresCode(s, &r.Region)
	codes.Numbers(s, &r.Season.From, &r.Season.To, &r.Most)
}

func lampCode(s codes.Scribe, l *api.Lamp) { codes.Numbers(s, &l.ID, &l.Power) }

func licenceCode(s codes.Scribe, l *api.Licence) { codes.Numbers(s, &l.Name, &l.Level, &l.Least) }

func squareCode(s codes.Scribe, x *api.Square) { codes.Numbers(s, &x.Level, &x.X, &x.Y) }

func squaresCode(s codes.Scribe, l *[]api.Square) { codes.Elements(s, l, squareCode) }

func spanCode(s codes.Scribe, x *api.Span) { codes.Numbers(s, &x.Lo, &x.Hi) }

func nameCode(s codes.Scribe, n *api.Name) { codes.Numbers(s, &n.House, &n.Num) }

func catchCode(s codes.Scribe, c *api.Catch) {
	nameCode(s, &c.Sheet)
	s.Number(&c.Observer)
	squareCode(s, &c.Square)
	codes.Numbers(s, &c.Night, &c.Lamp)
	spanCode(s, &c.Total)
}

func recordCode(s codes.Scribe, r *api.Record) {
	nameCode(s, &r.Sheet)
	codes.Numbers(s, &r.Line, &r.State, &r.Said, &r.Year)
	spanCode(s, &r.Count)
	codes.List(s, &r.Names)
	codes.Elements(s, &r.Seen, codes.List)
}

func seriesCode(s codes.Scribe, x *api.Series) {
	codes.Numbers(s, &x.Observer, &x.Said, &x.Year, &x.From, &x.To, &x.Name)
	spanCode(s, &x.Count)
}

func answerCode(s codes.Scribe, a *api.Answer) {
	s.Number(&a.Name)
	spanCode(s, &a.Count)
	for _, l := range []*[]int{&a.Least, &a.Most, &a.LowCut, &a.HighCut} {
		codes.List(s, l)
	}
	spanCode(s, &a.First)
	spanCode(s, &a.Last)
	squaresCode(s, &a.Sure)
	squaresCode(s, &a.May)
}

func mapCode(s codes.Scribe, m *api.DotMap) {
	s.Number(&m.Name)
	squaresCode(s, &m.Dots)
	squaresCode(s, &m.Region)
}
