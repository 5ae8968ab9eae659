package posts_test

import (
	"slices"
	"testing"

	"noctuary/api"
	"noctuary/posts"
)

// spoil changes all memory to which a note leads.
func spoil(n api.Note) {
	for _, l := range n.Sheet.Lines {
		for i := range l.Seen {
			l.Seen[i] = -7
		}
	}
	for i := range n.Sheet.Lines {
		n.Sheet.Lines[i] = api.Line{}
	}
	for _, l := range [][]int{n.Names, n.Seen, n.Change.From, n.Change.To} {
		for i := range l {
			l[i] = -7
		}
	}
}

func spoilAll(l []api.Note) {
	for i := range l {
		spoil(l[i])
		l[i] = api.Note{}
	}
}

func spoilBytes(l ...[]byte) {
	for _, x := range l {
		for i := range x {
			x[i] += 85
		}
	}
}

// inRow returns one of each kind of notes, with names and Clocks of one house in order.
func inRow(house int) []api.Note {
	l := oneOfEach()
	for i := range l {
		l[i] = called(l[i], house, i+1, i+1)
	}
	return l
}

// P9.1: what Encode, Decode, Pages and Told are given is neither changed nor kept, and what they return is new memory.
func TestMemoryOfBytes(t *testing.T) {
	b := base()
	for i, n := range inRow(1) {
		before := text(n)
		code, _ := posts.Encode(b, n)
		again, _ := posts.Encode(b, n)
		wantSame(t, "the note", text(n), before)
		got, _ := posts.Decode(b, again)
		spoil(n)
		wantSame(t, "the bytes", code, codeOf(inRow(1)[i]))
		spoilBytes(again)
		wantSame(t, "the note that was decoded", text(got), before)
		spoilBytes(code)
		other, _ := posts.Decode(b, codeOf(inRow(1)[i]))
		spoil(got)
		wantSame(t, "another one", text(other), before)
	}
	wantSame(t, "the base", b, base())

	l := record(60)
	pages, _ := posts.Pages(0, l)
	more, _ := posts.Pages(0, l)
	wantSame(t, "the record", l, record(60))
	spoilBytes(l, more[0], more[1])
	wantSame(t, "the pages", pages, pagesOf(0, record(60)))
	pages[0] = append(pages[0], 1, 2, 3)[:32]
	wantSame(t, "the pages", pages, pagesOf(0, record(60)))
	pages = slices.Concat(pages, pagesOf(3, record(3)))
	records, _ := posts.Told(pages)
	wantSame(t, "the pages", pages, slices.Concat(pagesOf(0, record(60)), pagesOf(3, record(3))))
	spoilBytes(pages...)
	wantSame(t, "the records", records, [][]byte{record(60), record(3)})
	records[0] = append(records[0], 1, 2, 3)
	spoilBytes(records[0])
	wantSame(t, "the other record", records[1], record(3))
}

// P9.1: what a notebook is given is not kept, and what it returns is new memory.
func TestMemoryOfNotebooks(t *testing.T) {
	n := posts.NewNotebook()
	l := record(60)
	mustWrite(t, n, l)
	spoilBytes(l)
	wantBook(t, "a notebook", n, 0, 3, record(60))
	spoilBytes(n.Records()...)
	wantBook(t, "a notebook", n, 0, 3, record(60))
	other := posts.NewNotebook()
	mustWrite(t, other, record(1))
	wantBook(t, "a notebook", n, 0, 3, record(60))
}

// P9.1: what a house is given is neither changed nor kept, and what it returns is new memory.
func TestMemoryOfHouses(t *testing.T) {
	b := base()
	h := newHouse(t, b, 2)
	b.Book.First[0], b.Book.Changes[0].From[0], b.Book.Changes[0].To[0], b.Lamps[0].ID, b.Matrix.States[0] = 9, 9, 9, 1, 1
	b.Book.Changes[0].Year = 0
	l := inRow(1)
	mustHear(t, h, l...)
	wantSame(t, "the notes that were heard", l, inRow(1))
	spoilAll(l)
	wantSame(t, "Notes", h.Notes(), inRow(1))
	spoilAll(h.Notes())
	wantSame(t, "Notes", h.Notes(), inRow(1))
	own := inRow(2)
	own[0].Sheet.Night = 7
	own[0].Sheet.Lines = own[0].Sheet.Lines[:2]
	for _, i := range []int{0, 4, 5, 6} {
		n := own[i]
		before := text(n)
		out, e := h.Do(n)
		if e != api.OK && i == 0 {
			t.Errorf("Do: error %d", e)
		}
		wantSame(t, "the note that was done", text(n), before)
		want, told := h.Notes(), text(out)
		spoil(n)
		wantSame(t, "the note that Do returned", text(out), told)
		spoil(out)
		wantSame(t, "Notes", h.Notes(), want)
	}
	spoilInts(h.Counts(), h.Heard(1), h.Heard(2))
	wantSame(t, "Counts", h.Counts()[0], 9)
	wantSame(t, "Heard", h.Heard(1), known())
	letter, _ := h.Letter(1)
	want := slices.Clone(letter)
	spoilBytes(letter)
	letter, _ = h.Letter(1)
	wantSame(t, "Letter", letter, want)
	k := newHouse(t, base(), 1)
	if _, e := k.Take(2, letter); e != api.OK {
		t.Errorf("Take: error %d", e)
	}
	wantSame(t, "the letter", letter, want)
	told := k.Notes()
	spoilBytes(letter)
	wantSame(t, "Notes behind the letter", k.Notes(), told)
	wantSame(t, "what was heard", told[:9], inRow(1))
}

func spoilInts(l ...[]int) {
	for _, x := range l {
		for i := range x {
			x[i] = -7
		}
	}
}

// P9.1: a world keeps nothing that it is given, and what it returns is new memory.
func TestMemoryOfWorlds(t *testing.T) {
	b := base()
	w, _ := posts.NewWorld(b, 2)
	b.Book.First[0], b.Lamps[0].ID, b.Matrix.States[1] = 9, 1, 1
	n := inRow(1)[0]
	n.Sheet.Lines = n.Sheet.Lines[:2]
	done := inRow(1)[0]
	done.Sheet.Lines = done.Sheet.Lines[:2]
	mustStep(t, w, do(1, n))
	spoil(n)
	wantNotes(t, w, 1, done)
	mustStep(t, w, post(1, 2), mail(api.ActDouble, 0))
	mails := text(w.Mails())
	for _, x := range w.Mails() {
		spoilBytes(x.Body)
	}
	clear(w.Mails())
	wantSame(t, "Mails", text(w.Mails()), mails)
	mustStep(t, w, mail(api.ActDeliver, 1), mail(api.ActDeliver, 0))
	spoilAll(mustNotes(t, w, 2))
	wantNotes(t, w, 2, done)
	wantSame(t, "Settle", w.Settle(), api.OK)
	spoilAll(mustNotes(t, w, 2))
	wantNotes(t, w, 1, done)
	mustStep(t, w, do(1, caught(9, 9, line(1, 1, 1))))
	wantNotes(t, w, 2, done)
}
