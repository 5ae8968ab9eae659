package names

import (
	"slices"

	"noctuary/api"
)

// version is a list of names in order.
type version []int

// has reports whether a version has a name.
func (l version) has(name int) bool {
	_, found := slices.BinarySearch(l, name)
	return found
}

// hasAll reports whether a version has all of some names, which are in order.
func (l version) hasAll(names []int) bool { return len(without(names, l)) == 0 }

// hasSome reports whether a version has one of some names.
func (l version) hasSome(names []int) bool { return slices.ContainsFunc(names, l.has) }

// history is a book with its versions, up to the first change that cannot be applied.
type history struct {
	versions []version
	changes  []api.Change
}

// open returns the history of a book, if it is valid and has some versions.
func open(b api.NameBook, versions ...int) (history, api.Errno) {
	if len(b.Changes) > api.MaxChanges {
		return history{}, api.ErrBook
	}
	h := historyOf(b)
	if !h.complete() {
		return history{}, api.ErrBook
	}
	for _, v := range versions {
		if v < 0 || v >= len(h.versions) {
			return history{}, api.ErrVersion
		}
	}
	return h, api.OK
}

// openAt is open for a name of the version v, and for versions at which it is asked for.
func openAt(b api.NameBook, v, name int, others ...int) (history, api.Errno) {
	h, e := open(b, append(others, v)...)
	if e == api.OK && !h.versions[v].has(name) {
		return history{}, api.ErrName
	}
	return h, e
}

func historyOf(b api.NameBook) history {
	h := history{changes: b.Changes}
	if !isVersion(b.First) {
		return h
	}
	h.versions = []version{b.First}
	year := 0
applying:
	for v, x := range b.Changes {
		ahead, from := h.versions[v], version(x.From)
		if x.Year < year || x.Year > api.MaxYear || !isVersion(from) || !isVersion(x.To) || !ahead.hasAll(from) {
			break
		}
		for _, name := range without(x.To, from) {
			if ahead.has(name) {
				break applying
			}
		}
		behind := replace(ahead, from, x.To)
		if len(behind) > api.MaxNames {
			break
		}
		h.versions = append(h.versions, behind)
		year = x.Year
	}
	return h
}

// complete reports whether all changes can be applied.
func (h history) complete() bool { return len(h.versions) > len(h.changes) }

// isVersion reports whether a list can be a version: it is neither empty nor too long.
func isVersion(l []int) bool {
	return 0 < len(l) && len(l) <= api.MaxNames && areNames(l)
}

// areNames reports whether a list has names only, in order.
func areNames(l []int) bool {
	return increasing(l) && (len(l) == 0 || 0 < l[0] && l[len(l)-1] <= api.MaxID)
}

func increasing(l []int) bool {
	for i := range l {
		if i > 0 && l[i-1] >= l[i] {
			return false
		}
	}
	return true
}

// every reports whether something holds for each element of a list.
func every[T any](l []T, holds func(T) bool) bool {
	return !slices.ContainsFunc(l, func(x T) bool { return !holds(x) })
}

// without returns the names of a list that are not in another one.
func without(l, gone []int) []int {
	out := make([]int, 0, len(l))
	for _, name := range l {
		for len(gone) > 0 && gone[0] < name {
			gone = gone[1:]
		}
		if len(gone) == 0 || gone[0] != name {
			out = append(out, name)
		}
	}
	return out
}

// merge returns the names of two lists that have none in common.
func merge(a, b []int) []int {
	out := make([]int, 0, len(a)+len(b))
	for _, name := range a {
		for len(b) > 0 && b[0] < name {
			out = append(out, b[0])
			b = b[1:]
		}
		out = append(out, name)
	}
	return append(out, b...)
}
