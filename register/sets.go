package register

import (
	"slices"

	"noctuary/api"
)

// CheckSet returns what is wrong with a set first.
func CheckSet(b api.Base, l []api.Note) (api.Errno, int) {
	if e := CheckBase(b); e != api.OK {
		return e, 0
	}
	return faultOf(b, l)
}

// Merge returns the notes of two sets.
func Merge(b api.Base, x, y []api.Note) ([]api.Note, api.Errno) {
	if e := checkSets(b, x, y); e != api.OK {
		return nil, e
	}
	if _, forks := firstFork(x, y); forks {
		return nil, api.ErrFork
	}
	all := setOf(x, y)
	if len(all) > api.MaxNotes {
		return nil, api.ErrLimit
	}
	return all.notes(), api.OK
}

// Fork returns the first name of which two sets have different notes.
func Fork(b api.Base, x, y []api.Note) (api.Name, api.Errno) {
	if e := checkSets(b, x, y); e != api.OK {
		return api.Name{}, e
	}
	name, forks := firstFork(x, y)
	if !forks {
		return api.Name{}, api.ErrNone
	}
	return name, api.OK
}

// Counts returns the notes that count, in the order in which they take effect.
func Counts(b api.Base, l []api.Note) ([]api.Name, api.Errno) {
	if e := checkSets(b, l); e != api.OK {
		return nil, e
	}
	return setOf(l).counting(), api.OK
}

// Chain returns what was noted about a line.
func Chain(b api.Base, l []api.Note, sheet api.Name, line int) ([]api.Name, api.Errno) {
	if e := checkSets(b, l); e != api.OK {
		return nil, e
	}
	s := setOf(l)
	if !s.hasLine(sheet, line) {
		return nil, api.ErrNone
	}
	var out []api.Name
	for _, name := range s.counting() {
		// Of the notes that count, just those about lines have a Ref.
		if n := s[name]; n.Ref == sheet && n.Line == line {
			out = append(out, name)
		}
	}
	return out, api.OK
}

// checkSets returns what is wrong with a base, or with lists of notes that must be sets.
func checkSets(b api.Base, lists ...[]api.Note) api.Errno {
	if e := CheckBase(b); e != api.OK {
		return e
	}
	for _, l := range lists {
		if e, _ := faultOf(b, l); e != api.OK {
			return api.ErrArg
		}
	}
	return api.OK
}

// faultOf is CheckSet for a base that is valid.
func faultOf(b api.Base, l []api.Note) (api.Errno, int) {
	if len(l) > api.MaxNotes {
		return api.ErrLimit, 0
	}
	last := api.Name{} // less than all right names
	for i, n := range l {
		name := nameOf(n)
		switch {
		case !isWellFormed(b, n):
			return api.ErrNote, i
		case name == last:
			return api.ErrFork, i
		case byName(name, last) < 0:
			return api.ErrArg, i
		}
		last = name
	}
	return api.OK, 0
}

// firstFork returns the least name at which two sets fork, if they do.
func firstFork(x, y []api.Note) (name api.Name, forks bool) {
	others := setOf(y)
	for _, n := range x {
		if other, both := others[nameOf(n)]; both && !sameNote(n, other) {
			return nameOf(n), true
		}
	}
	return api.Name{}, false
}

// set is a set of notes by their names.
type set map[api.Name]api.Note

func setOf(lists ...[]api.Note) set {
	s := set{}
	for _, l := range lists {
		for _, n := range l {
			s[nameOf(n)] = n
		}
	}
	return s
}

// notes returns copies of the notes, by increasing name.
func (s set) notes() []api.Note {
	out := make([]api.Note, 0, len(s))
	for _, n := range s {
		out = append(out, copyOfNote(n))
	}
	slices.SortFunc(out, func(a, b api.Note) int { return byName(nameOf(a), nameOf(b)) })
	return out
}

// counting returns the names of the notes that count, in the order in which they take effect.
func (s set) counting() []api.Name {
	withdrawn := map[api.Name]bool{}
	for _, n := range s {
		if n.Kind == api.NoteWithdraw {
			withdrawn[n.Ref] = true
		}
	}
	var out []api.Name
	for name, n := range s {
		if n.Kind != api.NoteWithdraw && !withdrawn[name] {
			out = append(out, name)
		}
	}
	slices.SortFunc(out, func(a, b api.Name) int { return byEffect(s[a], s[b]) })
	return out
}

// futile returns the withdrawals that withdraw nothing, in any order.
func (s set) futile() []api.Name {
	var out []api.Name
	for name, n := range s {
		if n.Kind != api.NoteWithdraw {
			continue
		}
		if gone, found := s[n.Ref]; !found || gone.Kind == api.NoteWithdraw {
			out = append(out, name)
		}
	}
	return out
}

// hasLine reports whether there is a sheet of a name, and with such a line. (Other notes have no lines.)
func (s set) hasLine(sheet api.Name, line int) bool {
	return between(line, 0, len(s[sheet].Sheet.Lines)-1)
}
