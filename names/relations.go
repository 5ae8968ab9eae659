package names

import (
	"cmp"
	"maps"
	"slices"

	"noctuary/api"
)

// Compose returns two relations, one after the other.
func Compose(a, b [][]int, names []int) ([][]int, api.Errno) {
	switch {
	case !isSide(names), len(b) != len(names), !every(b, areNames):
		return nil, api.ErrArg
	case len(a) > api.MaxNames, !leadsTo(a, names):
		return nil, api.ErrArg
	}
	return compose(a, placesOf(names), b), api.OK
}

// Turn returns a relation the other way round.
func Turn(a [][]int, from, to []int) ([][]int, api.Errno) {
	if !isSide(from) || !isSide(to) || len(a) != len(from) || !leadsTo(a, to) {
		return nil, api.ErrArg
	}
	out := make([][]int, len(to))
	place := placesOf(to)
	for i, l := range a {
		for _, name := range l {
			k := place[name]
			out[k] = append(out[k], from[i])
		}
	}
	return out, api.OK
}

// isSide reports whether a list has the names to which the lists of a relation can belong: those of a version, or none.
func isSide(l []int) bool { return len(l) == 0 || isVersion(l) }

// leadsTo reports whether the lists of a relation are in order, and have only names that another list has.
func leadsTo(a [][]int, names version) bool {
	return every(a, func(l []int) bool { return increasing(l) && names.hasAll(l) })
}

// compose returns, for each list of a, in order what is in those lists of b that belong to its elements; place tells which list of b does. The lists of b are made sets first, as each may be joined to many.
func compose[A comparable, B cmp.Ordered](a [][]A, place map[A]int, b [][]B) [][]B {
	values := valuesOf(b)
	index := placesOf(values)
	sets := make([]set, len(b))
	for k, l := range b {
		sets[k] = newSet(len(values))
		for _, y := range l {
			sets[k].add(index[y])
		}
	}
	out := make([][]B, len(a))
	for i, l := range a {
		all := newSet(len(values))
		for _, x := range l {
			all.join(sets[place[x]])
		}
		for k, y := range values {
			if all.has(k) {
				out[i] = append(out[i], y)
			}
		}
	}
	return out
}

// valuesOf returns what is in some lists, in order, each once.
func valuesOf[T cmp.Ordered](lists [][]T) []T {
	found := map[T]bool{}
	for _, l := range lists {
		for _, x := range l {
			found[x] = true
		}
	}
	return slices.Sorted(maps.Keys(found))
}

// placesOf tells for each element of a list where it stands.
func placesOf[T comparable](l []T) map[T]int {
	out := map[T]int{}
	for i, x := range l {
		out[x] = i
	}
	return out
}

// set is a set of small numbers, with a bit for each.
type set []uint64

// newSet returns an empty set for numbers less than n.
func newSet(n int) set { return make(set, (n+63)/64) }

func (s set) add(k int)      { s[k/64] |= 1 << (k % 64) }
func (s set) has(k int) bool { return s[k/64]>>(k%64)&1 != 0 }

// join adds all numbers of another set for as many numbers.
func (s set) join(t set) {
	for i, bits := range t {
		s[i] |= bits
	}
}
