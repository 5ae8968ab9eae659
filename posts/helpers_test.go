package posts_test

import (
	"cmp"
	"fmt"
	"math/rand/v2"
	"slices"
	"testing"

	"noctuary/api"
	"noctuary/posts"
	"noctuary/register"
)

const huge = int(^uint(0) >> 1)

func base() api.Base {
	return api.Base{
		Book:     api.NameBook{First: []int{1, 2, 3}, Changes: []api.Change{{Year: 5, From: []int{2}, To: []int{4, 5}}}},
		Matrix:   api.Matrix{States: []int{2, 3}, Rows: []api.Row{{Name: 3, May: []int{1, 3}}}},
		Rules:    []api.Rule{{Name: 1, Region: []api.Square{{Level: 10}}, Season: api.Season{From: 101, To: 1231}, Most: 5}},
		Lamps:    []api.Lamp{{ID: 2, Power: 100}, {ID: 9, Power: 15}},
		County:   []api.Square{{X: 9, Y: 9}, {Level: 1, X: 2, Y: 1}},
		Licences: []api.Licence{{Name: 1, Level: 1, Least: 1}},
		Houses:   2,
	}
}

// wrongBases returns bases each of which is not valid by another part.
func wrongBases() map[string]api.Base {
	out := map[string]api.Base{"zero": {}}
	for what, change := range map[string]func(b *api.Base){
		"Book":     func(b *api.Base) { b.Book.First = []int{2, 1} },
		"Matrix":   func(b *api.Base) { b.Matrix.Rows[0].May[0] = 99 },
		"Rules":    func(b *api.Base) { b.Rules[0].Most = -1 },
		"Lamps":    func(b *api.Base) { b.Lamps[0].Power = 0 },
		"County":   func(b *api.Base) { b.County[0].X = -1 },
		"Licences": func(b *api.Base) { b.Licences[0].Least = 0 },
		"Houses":   func(b *api.Base) { b.Houses = 9 },
	} {
		b := base()
		change(&b)
		out[what] = b
	}
	return out
}

func span(lo, hi int) api.Span { return api.Span{Lo: lo, Hi: hi} }

func name(house, num int) api.Name { return api.Name{House: house, Num: num} }

func nameOf(n api.Note) api.Name { return name(n.House, n.Num) }

// The following functions return notes without a name and a Clock, as they are handed to Do.

func caught(day, night int, lines ...api.Line) api.Note {
	s := api.Sheet{Observer: 7, Year: 3, Square: api.Square{X: 5, Y: 6}, Night: night, Lamp: 2, Total: span(10, 20), Lines: lines}
	return api.Note{Day: day, Kind: api.NoteSheet, Sheet: s}
}

func line(name, lo, hi int, seen ...int) api.Line {
	return api.Line{Name: name, Count: span(lo, hi), Seen: seen}
}

func judged(day, kind int, sheet api.Name, at int) api.Note {
	return api.Note{Day: day, Kind: kind, Ref: sheet, Line: at}
}

func undone(day int, ref api.Name) api.Note {
	return api.Note{Day: day, Kind: api.NoteWithdraw, Ref: ref}
}

// called gives a note a name and a Clock.
func called(n api.Note, house, num, clock int) api.Note {
	n.House, n.Num, n.Clock = house, num, clock
	return n
}

// oneOfEach has a well-formed note of each kind.
func oneOfEach() []api.Note {
	sheet := name(1, 1)
	l := []api.Note{
		caught(5, 100, line(1, 3, 9), line(2, 5, 70, 3, 1), line(60000, 0, 100000)),
		judged(6, api.NoteAccept, sheet, 0),
		judged(6, api.NoteQuery, sheet, 1),
		judged(99999, api.NoteReject, name(8, 400), 199),
		judged(7, api.NoteName, sheet, 1),
		judged(7, api.NoteVoucher, sheet, 1),
		{Day: 8, Kind: api.NoteChange, Change: api.Change{Year: 273, From: []int{1, 3}, To: []int{64, 65, 65535}}},
		{Day: 9, Kind: api.NoteSeries, Series: api.Series{Observer: 7, Said: 2, Year: 3, From: 90, To: 110, Name: 3, Count: span(2, 8)}},
		undone(10, name(1, 4)),
	}
	l[4].Names, l[5].Seen = []int{1, 3, 8191, 8192}, []int{1, 7}
	for i := range l {
		l[i] = called(l[i], 1+i%8, i+1, 1<<(5*i)) // 1 to 2^40
	}
	return l
}

// great returns a sheet of a night whose encoding, as that of a note of a house with a small Num, Clock and Day, is of a length.
func great(t *testing.T, night, length int) api.Note {
	t.Helper()
	n := caught(1, night)
	for len(codeOf(called(n, 1, 1, 1))) < length-300 {
		n.Sheet.Lines = append(n.Sheet.Lines, line(1, 1, 1))
		for range 64 {
			l := &n.Sheet.Lines[len(n.Sheet.Lines)-1]
			l.Seen = append(l.Seen, 1<<14)
		}
	}
	for len(codeOf(called(n, 1, 1, 1))) <= length-4 {
		n.Sheet.Lines = append(n.Sheet.Lines, line(1, 1, 1))
	}
	for i := range 3 {
		if len(codeOf(called(n, 1, 1, 1))) < length {
			n.Sheet.Lines[len(n.Sheet.Lines)-1-i].Name = 64 // two bytes
		}
	}
	if got := len(codeOf(called(n, 1, 1, 1))); got != length {
		t.Fatalf("the note has %d bytes, not %d", got, length)
	}
	return n
}

// wideBase is a base with a matrix of which notes may be great.
func wideBase() api.Base {
	b := base()
	b.Matrix = api.Matrix{}
	for range 64 {
		b.Matrix.States = append(b.Matrix.States, 16)
	}
	b.Book.First = append(b.Book.First, 64)
	return b
}

// number returns the encoding of a number by the chapter's words.
func number(n int) []byte {
	u := uint64(2) * uint64(n)
	if n < 0 {
		u = uint64(-2*(n+1)) + 1
	}
	var out []byte
	for {
		low, rest := byte(u%128), u/128
		if rest == 0 {
			return append(out, low)
		}
		out = append(out, low+128)
		u = rest
	}
}

func numbers(l ...int) []byte {
	var out []byte
	for _, n := range l {
		out = append(out, number(n)...)
	}
	return out
}

// list returns the numbers of the encoding of a list.
func list(l []int) []int { return append([]int{len(l)}, l...) }

// flat returns the numbers of the encoding of a note, in order.
func flat(n api.Note) []int {
	s, x := n.Sheet, n.Series
	out := []int{n.House, n.Num, n.Clock, n.Day, n.Kind}
	out = append(out, s.Observer, s.Year, s.Square.Level, s.Square.X, s.Square.Y, s.Night, s.Lamp, s.Total.Lo, s.Total.Hi, len(s.Lines))
	for _, l := range s.Lines {
		out = append(out, l.Name, l.Count.Lo, l.Count.Hi)
		out = append(out, list(l.Seen)...)
	}
	out = append(out, n.Ref.House, n.Ref.Num, n.Line)
	out = append(out, list(n.Names)...)
	out = append(out, list(n.Seen)...)
	out = append(out, n.Change.Year)
	out = append(out, list(n.Change.From)...)
	out = append(out, list(n.Change.To)...)
	return append(out, x.Observer, x.Said, x.Year, x.From, x.To, x.Name, x.Count.Lo, x.Count.Hi)
}

// codeOf returns the encoding of a note by the chapter's words.
func codeOf(n api.Note) []byte { return numbers(flat(n)...) }

// letterOf returns a letter by the chapter's words.
func letterOf(counts []int, notes ...api.Note) []byte {
	out := numbers(append(list(counts), len(notes))...)
	for _, n := range notes {
		code := codeOf(n)
		out = append(append(out, number(len(code))...), code...)
	}
	return out
}

// known returns the counts of a letter, of which those of the first houses are given.
func known(l ...int) []int { return append(slices.Clone(l), make([]int, api.MaxHouses-len(l))...) }

// pageOf returns a page by the chapter's words, whatever its content.
func pageOf(number int, content ...byte) []byte {
	return checked(append([]byte{byte(number % 256), byte(len(content))}, content...))
}

// checked returns the page with the bytes, zeros behind them, and the check.
func checked(l []byte) []byte {
	p := append(slices.Clone(l), make([]byte, 30-len(l))...)
	sum := 0
	for i, x := range p {
		sum += (i + 1) * int(x)
	}
	check := 1 + sum%65521
	return append(p, byte(check%256), byte(check/256))
}

// pagesOf returns the pages of a record by the chapter's words.
func pagesOf(number int, record []byte) [][]byte {
	rest := append([]byte{byte(len(record) % 256), byte(len(record) / 256)}, record...)
	var out [][]byte
	for len(rest) > 28 {
		out = append(out, pageOf(number+len(out), rest[:28]...))
		rest = rest[28:]
	}
	return append(out, pageOf(number+len(out), rest...))
}

// text tells all of a value; a nil slice and an empty one are told in the same way.
func text(x any) string { return fmt.Sprint(x) }

func same[T any](a, b T) bool { return text(a) == text(b) }

// short keeps messages readable.
func short(x any) string {
	s := text(x)
	return s[:min(len(s), 300)]
}

func wantSame[T any](t *testing.T, what string, got, want T) {
	t.Helper()
	if !same(got, want) {
		t.Errorf("%s: %s; want %s", what, short(got), short(want))
	}
}

// wantBoth checks a result and an error, whatever this is.
func wantBoth[T any](t *testing.T, what string, got T, e api.Errno, want T, error api.Errno) {
	t.Helper()
	if e != error || !same(got, want) {
		t.Errorf("%s: %s, error %d; want %s, error %d", what, short(got), e, short(want), error)
	}
}

// wantError checks that a call returned an error, and nothing else.
func wantError[T any](t *testing.T, what string, got T, e, error api.Errno) {
	t.Helper()
	var none T
	wantBoth(t, what, got, e, none, error)
}

func newHouse(t *testing.T, b api.Base, id int) *posts.House {
	t.Helper()
	h, e := posts.NewHouse(b, id)
	if e != api.OK {
		t.Fatalf("NewHouse: error %d", e)
	}
	return h
}

func newWorld(t *testing.T, n int) *posts.World {
	t.Helper()
	w, e := posts.NewWorld(base(), n)
	if e != api.OK {
		t.Fatalf("NewWorld: error %d", e)
	}
	return w
}

// mustDo lets a house do a note.
func mustDo(t *testing.T, h *posts.House, n api.Note) api.Note {
	t.Helper()
	out, e := h.Do(n)
	if e != api.OK {
		t.Fatalf("Do of %s: error %d", short(n), e)
	}
	return out
}

// mustHear lets a house hear notes all of which it lacks.
func mustHear(t *testing.T, h *posts.House, l ...api.Note) {
	t.Helper()
	if n, e := h.Hear(l); e != api.OK || n != len(l) {
		t.Fatalf("Hear of %s: %d, error %d", short(l), n, e)
	}
}

// manyOf returns the notes 1 to n of a house, all of them withdrawals.
func manyOf(house, n int) []api.Note {
	var l []api.Note
	for num := 1; num <= n; num++ {
		l = append(l, called(undone(0, name(1, 1)), house, num, num))
	}
	return l
}

func random() *rand.Rand { return rand.New(rand.NewPCG(9, 27)) }

// pick returns any element of a list.
func pick[T any](r *rand.Rand, l ...T) T { return l[r.IntN(len(l))] }

// someNote returns a note as it is handed to Do, mostly well-formed, by which a house may come to a conflict.
func someNote(r *rand.Rand) api.Note {
	ref, at, day := name(1+r.IntN(3), 1+r.IntN(5)), r.IntN(2), r.IntN(4)
	switch r.IntN(9) {
	case 0, 1, 2:
		l := []api.Line{line(1+r.IntN(5), r.IntN(3), 3+r.IntN(100)), line(1, 0, 1, 1, 1+r.IntN(7)), line(3, 1, 1)}
		return caught(day, r.IntN(40), l[:r.IntN(4)]...)
	case 3:
		n := judged(day, api.NoteName, ref, at)
		n.Names = []int{1 + r.IntN(3), 4 + r.IntN(2)}
		return n
	case 4:
		n := judged(day, api.NoteVoucher, ref, at)
		n.Seen = []int{1 + r.IntN(3), r.IntN(8)} // 0 is none
		return n
	case 5:
		return api.Note{Day: day, Kind: api.NoteChange, Change: api.Change{Year: 5 + r.IntN(3), From: []int{1 + r.IntN(3)}, To: []int{6 + r.IntN(200)}}}
	case 6:
		return undone(day, ref)
	}
	return judged(day, 2+r.IntN(3), ref, at)
}

// diary is a house by the chapter's words, for the base of the tests: its notes are in the order in which it added them.
type diary struct {
	id     int
	notes  []api.Note
	synced int
	heard  [9][9]int // the indices are those of houses
}

func (d *diary) set() []api.Note {
	l := slices.Clone(d.notes)
	slices.SortFunc(l, func(a, b api.Note) int {
		return cmp.Or(cmp.Compare(a.House, b.House), cmp.Compare(a.Num, b.Num))
	})
	return l
}

func (d *diary) count(house int) int {
	n := 0
	for _, x := range d.notes {
		if x.House == house {
			n++
		}
	}
	return n
}

func (d *diary) counts() []int {
	var l []int
	for house := 1; house <= api.MaxHouses; house++ {
		l = append(l, d.count(house))
	}
	return l
}

func (d *diary) do(n api.Note) api.Errno {
	clock := 0
	for _, x := range d.notes {
		clock = max(clock, x.Clock)
	}
	n = called(n, d.id, d.count(d.id)+1, clock+1)
	if len(d.notes) == api.MaxNotes || n.Clock > api.MaxClock {
		return api.ErrLimit
	}
	if register.CheckNote(base(), n) != api.OK || len(codeOf(n)) > api.MaxBody {
		return api.ErrNote
	}
	with := &diary{notes: append(slices.Clone(d.notes), n)}
	r, _ := register.Fold(base(), with.set())
	if n.Kind != api.NoteWithdraw && slices.Contains(r.Conflicts, nameOf(n)) {
		return api.ErrPlace
	}
	d.notes = with.notes
	return api.OK
}

// hear is Hear of notes that are well-formed, and neither forks nor too many.
func (d *diary) hear(l []api.Note) int {
	added := 0
	for _, n := range l {
		if n.Num == d.count(n.House)+1 {
			d.notes = append(d.notes, n)
			added++
		}
	}
	return added
}

// gift returns the notes of the letter to a house.
func (d *diary) gift(to int) []api.Note {
	var l []api.Note
	for _, n := range d.set() {
		if n.Num > d.heard[to][n.House] {
			l = append(l, n)
		}
	}
	return l[:min(len(l), 16)]
}

func (d *diary) take(from int, counts []int, l []api.Note) int {
	for i, n := range counts {
		d.heard[from][i+1] = max(d.heard[from][i+1], n)
	}
	return d.hear(l)
}

// pages returns the pages of the notes that are not synced.
func (d *diary) pages() (pages [][]byte, ends []int) {
	at := 0
	for i, n := range d.notes {
		l := pagesOf(at, codeOf(n))
		at += len(l)
		if i >= d.synced {
			pages = append(pages, l...)
			ends = append(ends, len(pages))
		}
	}
	return pages, ends
}

// crash is Crash: the first notes are left, as far as all their pages are.
func (d *diary) crash(keep, torn, bytes int) api.Errno {
	pages, ends := d.pages()
	if keep < 0 || keep >= 1<<62 || torn < -1 || torn >= len(pages) || bytes < 0 || bytes > 32 {
		return api.ErrArg
	}
	left := 0
	for left < len(pages) && isLeft(pages[left], left, keep, torn, bytes) {
		left++
	}
	count := 0
	for count < len(ends) && ends[count] <= left {
		count++
	}
	d.notes = d.notes[:d.synced+count]
	d.synced = len(d.notes)
	d.heard = [9][9]int{}
	return api.OK
}

// isLeft reports whether a page is as it was behind a crash.
func isLeft(p []byte, i, keep, torn, bytes int) bool {
	if i == torn {
		return slices.Max(append(slices.Clone(p[bytes:]), 0)) == 0
	}
	return i <= 61 && keep/(1<<i)%2 == 1
}

// someCrash returns the arguments of a crash, mostly such as keep much.
func someCrash(r *rand.Rand) (keep, torn, bytes int) {
	keep = pick(r, 0, 1, 3, 7, 15, 1<<62-1, 1<<62-1-1<<r.IntN(6), r.IntN(64))
	return keep, pick(r, -1, -1, 0, 1, r.IntN(8)), pick(r, 0, 31, 32, r.IntN(33))
}
