package names

import (
	"slices"

	"noctuary/api"
)

// Means returns what a name of a version may be at another one.
func Means(b api.NameBook, v, name, w int) ([]int, api.Errno) {
	h, e := openAt(b, v, name, w)
	if e != api.OK {
		return nil, e
	}
	return h.meaning(v, name, w), api.OK
}

// All returns what some names may be at another version.
func All(b api.NameBook, v int, l []int, w int) ([]int, api.Errno) {
	h, e := open(b, v, w)
	switch {
	case e != api.OK:
		return nil, e
	case !increasing(l):
		return nil, api.ErrArg
	case !h.versions[v].hasAll(l):
		return nil, api.ErrName
	}
	return h.meanings(v, l, w), api.OK
}

// Relate returns how two names of versions are related.
func Relate(b api.NameBook, v, x, w, y int) (int, api.Errno) {
	h, e := openAt(b, v, x, w)
	switch {
	case e != api.OK:
		return 0, e
	case !h.versions[w].has(y):
		return 0, api.ErrName
	case h.rich():
		return 0, api.ErrLimit
	}
	return h.relation(v, x, w, y), api.OK
}

// Exact returns the name that is the same at another version.
func Exact(b api.NameBook, v, name, w int) (int, api.Errno) {
	h, e := openAt(b, v, name, w)
	if e != api.OK {
		return 0, e
	}
	if h.rich() {
		return 0, api.ErrLimit
	}
	for _, y := range h.meaning(v, name, w) {
		if h.relation(v, name, w, y) == api.RelSame {
			return y, api.OK
		}
	}
	return 0, api.ErrNone
}

// Steps returns what each name of a version may be at another one.
func Steps(b api.NameBook, v, w int) ([][]int, api.Errno) {
	h, e := open(b, v, w)
	if e != api.OK {
		return nil, e
	}
	var out [][]int
	for _, name := range h.versions[v] {
		out = append(out, h.meaning(v, name, w))
	}
	return out, api.OK
}

// Chain returns the changes that touch a name.
func Chain(b api.NameBook, v, name int) ([]int, api.Errno) {
	h, e := openAt(b, v, name)
	if e != api.OK {
		return nil, e
	}
	var out []int
	for i, x := range h.changes {
		if version(x.From).hasSome(h.meaning(v, name, i)) {
			out = append(out, i)
		}
	}
	return out, api.OK
}

// meaning returns what a name of a version means at another one.
func (h history) meaning(v, name, w int) []int { return h.meanings(v, []int{name}, w) }

// meanings returns what some names of a version mean at another one. It goes step by step, and not by fates, which may be too many: through each name on the way there goes one.
func (h history) meanings(v int, l []int, w int) []int {
	out := slices.Clone(l)
	for ; v < w; v++ {
		out = replace(out, h.changes[v].From, h.changes[v].To)
	}
	for ; v > w; v-- {
		out = replace(out, h.changes[v-1].To, h.changes[v-1].From)
	}
	return out
}

// replace returns a list with the names in to instead of those in from; as it is, if it has none of these.
func replace(l, from, to []int) []int {
	rest := without(l, from)
	if len(rest) == len(l) {
		return l
	}
	return merge(rest, to)
}

// relation returns how two names of versions are related. All fates through a name go through another one if and only if it means that one alone.
func (h history) relation(v, x, w, y int) int {
	forth := h.meaning(v, x, w)
	within := len(forth) == 1 && forth[0] == y
	back := h.meaning(w, y, v)
	around := len(back) == 1 && back[0] == x
	switch {
	case within && around:
		return api.RelSame
	case within:
		return api.RelWithin
	case around:
		return api.RelAround
	case version(forth).has(y):
		return api.RelMeets
	}
	return api.RelApart
}
