package names

import (
	"iter"
	"slices"

	"noctuary/api"
)

// Fates returns all fates, in order.
func Fates(b api.NameBook) ([][]int, api.Errno) {
	h, e := open(b)
	if e != api.OK {
		return nil, e
	}
	if h.rich() {
		return nil, api.ErrLimit
	}
	return slices.Collect(h.fates()), api.OK
}

// Count returns the number of fates.
func Count(b api.NameBook) (int, api.Errno) {
	h, e := open(b)
	if e != api.OK {
		return 0, e
	}
	if h.rich() {
		return 0, api.ErrLimit
	}
	return h.count(), api.OK
}

// Through returns the fates that have a name at a version.
func Through(b api.NameBook, v, name int) ([]int, api.Errno) {
	h, e := openAt(b, v, name)
	if e != api.OK {
		return nil, e
	}
	if h.rich() {
		return nil, api.ErrLimit
	}
	var out []int
	i := 0
	for fate := range h.fates() {
		if fate[v] == name {
			out = append(out, i)
		}
		i++
	}
	return out, api.OK
}

// count returns the number of fates; of a rich book it may be less, but is beyond MaxFates.
func (h history) count() int {
	ways := map[int]int{} // to come to each name of a version
	for _, name := range h.versions[0] {
		ways[name] = 1
	}
	total := len(ways)
	for _, x := range h.changes {
		if total > api.MaxFates { // no change makes it less
			break
		}
		gone := 0
		for _, name := range x.From {
			gone += ways[name]
			delete(ways, name)
		}
		for _, name := range x.To {
			ways[name] = gone
		}
		total += gone * (len(x.To) - 1)
	}
	return total
}

func (h history) rich() bool { return h.count() > api.MaxFates }

// fates yields all fates in order.
func (h history) fates() iter.Seq[[]int] {
	return func(yield func([]int) bool) {
		h.extend(make([]int, 0, len(h.versions)), yield)
	}
}

// extend yields the fates that begin with some names, and reports whether there is to be a further one.
func (h history) extend(begun []int, yield func([]int) bool) bool {
	if len(begun) == len(h.versions) {
		return yield(slices.Clone(begun))
	}
	for _, name := range h.further(begun) {
		if !h.extend(append(begun, name), yield) {
			return false
		}
	}
	return true
}

// further returns the names that may follow in a fate.
func (h history) further(begun []int) []int {
	v := len(begun) - 1
	if v < 0 {
		return h.versions[0]
	}
	if x := h.changes[v]; version(x.From).has(begun[v]) {
		return x.To
	}
	return begun[v:]
}
