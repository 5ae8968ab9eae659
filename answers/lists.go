package answers

import (
	"slices"

	"noctuary/api"
	"noctuary/names"
)

// lists tells what a valid book has at the versions of years. It keeps what it was asked for, as a call of package names goes through the whole book.
type lists struct {
	book     api.NameBook
	last     int
	ofYears  map[int]int     // the versions of years
	versions map[int][]int   // the names of versions
	meanings map[int][][]int // what each of these may be at the last version
}

func listsOf(b api.NameBook) lists {
	last, _ := names.Last(b)
	return lists{book: b, last: last, ofYears: map[int]int{}, versions: map[int][]int{}, meanings: map[int][][]int{}}
}

// once returns what belongs to a key; it is found out when it is asked for the first time.
func once[K comparable, V any](known map[K]V, key K, find func(K) V) V {
	if v, found := known[key]; found {
		return v
	}
	v := find(key)
	known[key] = v
	return v
}

// versionOf returns the version of a year.
func (l lists) versionOf(year int) int {
	return once(l.ofYears, year, func(year int) int {
		v, _ := names.VersionOf(l.book, year)
		return v
	})
}

// namesAt returns the names of a version, in order.
func (l lists) namesAt(v int) []int {
	return once(l.versions, v, func(v int) []int {
		out, _ := names.Names(l.book, v)
		return out
	})
}

// stepsFrom returns what each name of a version may be at the last one.
func (l lists) stepsFrom(v int) [][]int {
	return once(l.meanings, v, func(v int) [][]int {
		out, _ := names.Steps(l.book, v, l.last)
		return out
	})
}

// now returns the names of the last version.
func (l lists) now() []int { return l.namesAt(l.last) }

// hasNow reports whether the last version has a name.
func (l lists) hasNow(name int) bool {
	_, found := slices.BinarySearch(l.now(), name)
	return found
}

// placeOf returns the index of a name of the last version.
func (l lists) placeOf(name int) int {
	i, _ := slices.BinarySearch(l.now(), name)
	return i
}

// haveNames reports whether there is a version of a year that has some names.
func (l lists) haveNames(year int, some ...int) bool {
	if !between(year, 0, api.MaxYear) {
		return false
	}
	all := l.namesAt(l.versionOf(year))
	for _, name := range some {
		if _, found := slices.BinarySearch(all, name); !found {
			return false
		}
	}
	return true
}

// meaningNow returns what some names of the version of a year may be at the last version, in order, each once.
func (l lists) meaningNow(year int, some []int) []int {
	v := l.versionOf(year)
	all, steps := l.namesAt(v), l.stepsFrom(v)
	var out []int
	for _, name := range some {
		i, _ := slices.BinarySearch(all, name)
		out = append(out, steps[i]...)
	}
	slices.Sort(out)
	return slices.Compact(out)
}

// exactNow returns the name of the last version that is the same as one of the version of a year, if there is one.
func (l lists) exactNow(year, name int) (now int, found bool) {
	now, e := names.Exact(l.book, l.versionOf(year), name, l.last)
	return now, e == api.OK
}
