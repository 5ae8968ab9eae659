package answers

import (
	"slices"
	"sort"

	"noctuary/api"
	"noctuary/names"
)

// lists tells what a valid book, which is not rich, has at the versions of years. It asks for all fates once, and for nothing else, as each call of package names goes through the whole book.
type lists struct {
	changes []api.Change
	fates   [][]int
	known   map[int]list // the versions that were asked for
}

// list is the names of a version, in order, with what each of them may be at the last version, in order: those of the name with the index i begin at the index from[i] of meanings, and end where those of the next one begin.
type list struct {
	names, from, meanings []int
}

// find returns what a name of the version may be at the last one, if it is a name of it.
func (l list) find(name int) (meaning []int, found bool) {
	i, found := slices.BinarySearch(l.names, name)
	if !found {
		return nil, false
	}
	return l.meanings[l.from[i]:l.from[i+1]], true
}

func listsOf(b api.NameBook) lists {
	fates, _ := names.Fates(b)
	return lists{changes: b.Changes, fates: fates, known: map[int]list{}}
}

// last returns the number of the last version.
func (l lists) last() int { return len(l.changes) }

// versionOf returns the version of a year: the number of changes up to it.
func (l lists) versionOf(year int) int {
	return sort.Search(len(l.changes), func(i int) bool { return l.changes[i].Year > year })
}

// at returns a version.
func (l lists) at(v int) list {
	if out, asked := l.known[v]; asked {
		return out
	}
	out := list{}
	for i, x := range l.passages(v) {
		if k := len(out.names); k == 0 || out.names[k-1] != x.then {
			out.names, out.from = append(out.names, x.then), append(out.from, i)
		}
		out.meanings = append(out.meanings, x.now)
	}
	out.from = append(out.from, len(out.meanings))
	l.known[v] = out
	return out
}

// passage is a name of a version, and one that it may be at the last version.
type passage struct{ then, now int }

// passages returns those of a version, in order, each once.
func (l lists) passages(v int) []passage {
	out := make([]passage, 0, len(l.fates))
	for _, fate := range l.fates {
		out = append(out, passage{then: fate[v], now: fate[l.last()]})
	}
	slices.SortFunc(out, func(a, b passage) int {
		if a.then != b.then {
			return a.then - b.then
		}
		return a.now - b.now
	})
	return slices.Compact(out)
}

// now returns the names of the last version.
func (l lists) now() []int { return l.at(l.last()).names }

// hasNow reports whether the last version has a name.
func (l lists) hasNow(name int) bool {
	_, found := slices.BinarySearch(l.now(), name)
	return found
}

// placeOf returns the index of a name of the last version.
func (l lists) placeOf(name int) int {
	i, _ := slices.BinarySearch(l.now(), name)
	return i
}

// haveNames reports whether there is a version of a year that has some names.
func (l lists) haveNames(year int, some ...int) bool {
	if !between(year, 0, api.MaxYear) {
		return false
	}
	all := l.at(l.versionOf(year))
	for _, name := range some {
		if _, found := all.find(name); !found {
			return false
		}
	}
	return true
}

// meaningNow returns what some names of the version of a year may be at the last version, in order, each once.
func (l lists) meaningNow(year int, some []int) []int {
	all := l.at(l.versionOf(year))
	var out []int
	for _, name := range some {
		meaning, _ := all.find(name)
		out = append(out, meaning...)
	}
	slices.Sort(out)
	return slices.Compact(out)
}

// exactNow returns the name of the last version that is the same as one of the version of a year, if there is one: that through which just the fates through this one go.
func (l lists) exactNow(year, name int) (now int, found bool) {
	v := l.versionOf(year)
	may, _ := l.at(v).find(name)
	if len(may) != 1 {
		return 0, false
	}
	for _, fate := range l.fates {
		if fate[l.last()] == may[0] && fate[v] != name {
			return 0, false
		}
	}
	return may[0], true
}
