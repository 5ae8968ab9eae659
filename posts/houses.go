package posts

import (
	"cmp"
	"maps"
	"slices"

	"noctuary/api"
	"noctuary/register"
)

// House writes down notes.
type House struct {
	id    int // 0, if it was not made by NewHouse
	base  api.Base
	notes map[api.Name]api.Note
	book  Notebook
	heard [api.MaxHouses]counts // of each house, how many notes of each one it knows
}

// counts is a number for each of the houses 1 to MaxHouses.
type counts [api.MaxHouses]int

// NewHouse returns a house without notes.
func NewHouse(b api.Base, id int) (*House, api.Errno) {
	if !isHouse(id) || register.CheckBase(b) != api.OK {
		return nil, api.ErrArg
	}
	return newHouse(coreOf(b), id), api.OK
}

func newHouse(core api.Base, id int) *House {
	return &House{id: id, base: core, notes: map[api.Name]api.Note{}}
}

// coreOf returns, in new memory, a base of which notes are well-formed, and amount to the same conflicts, just as for another one, which is valid. The rows of its matrix, its rules, its county and its licences do not matter for that.
func coreOf(b api.Base) api.Base {
	core := api.Base{
		Book:   api.NameBook{First: slices.Clone(b.Book.First)},
		Matrix: api.Matrix{States: slices.Clone(b.Matrix.States)},
		Lamps:  slices.Clone(b.Lamps),
		Houses: b.Houses,
	}
	for _, x := range b.Book.Changes {
		x.From, x.To = slices.Clone(x.From), slices.Clone(x.To)
		core.Book.Changes = append(core.Book.Changes, x)
	}
	return core
}

func isHouse(id int) bool { return id >= 1 && id <= api.MaxHouses }

func (h *House) isMade() bool { return h != nil && h.id != 0 }

// isOther reports whether a house was made, and a number is that of another one.
func (h *House) isOther(id int) bool { return h.isMade() && isHouse(id) && id != h.id }

// Do adds a note of the house's own.
func (h *House) Do(n api.Note) (api.Note, api.Errno) {
	if !h.isMade() {
		return api.Note{}, api.ErrArg
	}
	n.House, n.Num, n.Clock = h.id, h.known()[h.id-1]+1, h.clock()+1
	switch {
	case len(h.notes) >= api.MaxNotes || n.Clock > api.MaxClock:
		return api.Note{}, api.ErrLimit
	case !h.mayKnow(n):
		return api.Note{}, api.ErrNote
	case n.Kind != api.NoteWithdraw && h.isConflict(n):
		return api.Note{}, api.ErrPlace
	}
	h.add(n)
	return copyOf(n), api.OK
}

// Sync makes all notes durable.
func (h *House) Sync() {
	if h.isMade() {
		h.book.Sync()
	}
}

// Notes returns the notes that the house knows.
func (h *House) Notes() []api.Note {
	if !h.isMade() {
		return nil
	}
	var out []api.Note
	for _, n := range inOrder(h.notes) {
		out = append(out, copyOf(n))
	}
	return out
}

// Counts returns how many notes of each house it knows.
func (h *House) Counts() []int {
	if !h.isMade() {
		return nil
	}
	return h.known().list()
}

// Heard returns how many notes of each house it has heard that a house knows.
func (h *House) Heard(house int) []int {
	if !h.isMade() || !isHouse(house) {
		return nil
	}
	return h.heard[house-1].list()
}

// Letter returns the letter to a house.
func (h *House) Letter(to int) ([]byte, api.Errno) {
	if !h.isOther(to) {
		return nil, api.ErrArg
	}
	h.Sync()
	x := letter{counts: h.Counts()}
	for _, n := range inOrder(h.notes) {
		if len(x.notes) < api.MaxGift && n.Num > h.heard[to-1][n.House-1] {
			x.notes = append(x.notes, n)
		}
	}
	return x.bytes(), api.OK
}

// Hear adds notes of others.
func (h *House) Hear(l []api.Note) (int, api.Errno) {
	if !h.isMade() {
		return 0, api.ErrArg
	}
	for _, n := range l {
		if !h.mayKnow(n) {
			return 0, api.ErrNote
		}
	}
	further, e := h.further(l)
	for _, n := range further {
		h.add(n)
	}
	return len(further), e
}

// Take takes a letter of a house.
func (h *House) Take(from int, letter []byte) (int, api.Errno) {
	if !h.isOther(from) {
		return 0, api.ErrArg
	}
	x, e := letterOf(h.base, letter)
	if e != api.OK {
		return 0, e
	}
	heard := &h.heard[from-1]
	for i, n := range x.counts {
		heard[i] = max(heard[i], n)
	}
	return h.Hear(x.notes)
}

// Crash loses what is pending.
func (h *House) Crash(keep, torn, bytes int) api.Errno {
	if !h.isMade() {
		return api.ErrArg
	}
	if e := h.book.Crash(keep, torn, bytes); e != api.OK {
		return e
	}
	again := newHouse(h.base, h.id)
	for record := range told(h.book.pages) {
		n, e := Decode(h.base, record)
		if e != api.OK {
			break
		}
		if added, _ := again.Hear([]api.Note{n}); added == 0 {
			break
		}
	}
	again.Sync()
	*h = *again
	return api.OK
}

// add adds a note that the house may know.
func (h *House) add(n api.Note) {
	h.notes[nameOf(n)] = copyOf(n)
	h.book.add(codeOf(n))
}

// mayKnow reports whether a note is one that a house may know.
func (h *House) mayKnow(n api.Note) bool {
	code, e := Encode(h.base, n)
	return e == api.OK && len(code) <= api.MaxBody
}

// isConflict reports whether a further note would be a conflict.
func (h *House) isConflict(n api.Note) bool {
	all := maps.Clone(h.notes)
	all[nameOf(n)] = n
	r, _ := register.Fold(h.base, inOrder(all))
	return slices.Contains(r.Conflicts, nameOf(n))
}

// further returns those of some notes that the house would add, one after the other.
func (h *House) further(l []api.Note) ([]api.Note, api.Errno) {
	all := maps.Clone(h.notes)
	known := h.known()
	var out []api.Note
	for _, n := range l {
		old, found := all[nameOf(n)]
		switch {
		case found && !same(old, n):
			return nil, api.ErrFork
		case !found && n.Num <= known[n.House-1]+1:
			all[nameOf(n)] = n
			known[n.House-1]++
			out = append(out, n)
		}
	}
	if len(all) > api.MaxNotes {
		return nil, api.ErrLimit
	}
	return out, api.OK
}

// known returns how many notes of each house the house knows.
func (h *House) known() counts {
	var out counts
	for name := range h.notes {
		out[name.House-1]++
	}
	return out
}

// list returns the numbers in new memory: c is a copy.
func (c counts) list() []int { return c[:] }

// clock returns the greatest Clock of all notes.
func (h *House) clock() int {
	greatest := 0
	for _, n := range h.notes {
		greatest = max(greatest, n.Clock)
	}
	return greatest
}

func nameOf(n api.Note) api.Name { return api.Name{House: n.House, Num: n.Num} }

// same reports whether two notes, which are well-formed, are equal.
func same(a, b api.Note) bool { return slices.Equal(codeOf(a), codeOf(b)) }

// inOrder returns notes by increasing name.
func inOrder(notes map[api.Name]api.Note) []api.Note {
	return slices.SortedFunc(maps.Values(notes), func(a, b api.Note) int {
		return cmp.Or(cmp.Compare(a.House, b.House), cmp.Compare(a.Num, b.Num))
	})
}
