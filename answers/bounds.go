package answers

import (
	"cmp"
	"slices"
	"sort"

	"noctuary/api"
	"noctuary/flows"
	"noctuary/places"
)

const never = -1 // where there is no night

// First returns the bounds of the first night of a name.
func First(c api.Case, name int) (api.Span, api.Errno) {
	q, e := askPossible(c, name)
	if e != api.OK {
		return api.Span{}, e
	}
	nights := q.nights(name)
	return api.Span{Lo: q.firstThat(nights, flows.May), Hi: q.firstThat(nights, flows.Must)}, api.OK
}

// LastOf returns the bounds of the last night of a name.
func LastOf(c api.Case, name int) (api.Span, api.Errno) {
	q, e := askPossible(c, name)
	if e != api.OK {
		return api.Span{}, e
	}
	nights := q.nights(name)
	slices.Reverse(nights)
	return api.Span{Lo: q.firstThat(nights, flows.Must), Hi: q.firstThat(nights, flows.May)}, api.OK
}

// Sure returns the squares in which a name surely was.
func Sure(c api.Case, name int) ([]api.Square, api.Errno) {
	q, e := askPossible(c, name)
	if e != api.OK {
		return nil, e
	}
	return places.Normal(keysOf(q.always(q.squares(name))))
}

// May returns the squares in which a name may have been.
func May(c api.Case, name int) ([]api.Square, api.Errno) {
	q, e := askPossible(c, name)
	if e != api.OK {
		return nil, e
	}
	return places.Normal(keysOf(q.sometimes(q.squares(name))))
}

// askPossible is ask for a name, if all records can be right.
func askPossible(c api.Case, name int) (question, api.Errno) {
	q, e := ask(c, ofName(name))
	if e != api.OK {
		return question{}, e
	}
	if is, _ := flows.Feasible(q.plain()); !is {
		return question{}, api.ErrClash
	}
	return q, api.OK
}

// group is the arcs of the records of a name whose catches have something in common: the key.
type group[K comparable] struct {
	key  K
	arcs []int
}

// groupsOf puts the records of a name into groups by what a closure tells of their catches.
func groupsOf[K comparable](q question, name int, keyOf func(api.Catch) K) []group[K] {
	var out []group[K]
	at := map[K]int{}
	for i := range q.Records {
		arc, e := q.arcOf(i, name)
		if e != api.OK {
			continue
		}
		key := keyOf(q.catchOf(i))
		k, found := at[key]
		if !found {
			k = len(out)
			at[key] = k
			out = append(out, group[K]{key: key})
		}
		out[k].arcs = append(out[k].arcs, arc)
	}
	return out
}

// nights returns the records of a name by increasing nights.
func (q question) nights(name int) []group[int] {
	out := groupsOf(q, name, func(x api.Catch) int { return x.Night })
	slices.SortFunc(out, func(a, b group[int]) int { return cmp.Compare(a.key, b.key) })
	return out
}

// squares returns the records of a name by squares.
func (q question) squares(name int) []group[api.Square] {
	return groupsOf(q, name, func(x api.Catch) api.Square { return x.Square })
}

// arcsOf returns the arcs of some groups, in order.
func arcsOf[K comparable](groups []group[K]) []int {
	var out []int
	for _, g := range groups {
		out = append(out, g.arcs...)
	}
	slices.Sort(out)
	return out
}

// keysOf returns the keys of some groups.
func keysOf[K comparable](groups []group[K]) []K {
	var out []K
	for _, g := range groups {
		out = append(out, g.key)
	}
	return out
}

// firstThat returns the first one of some nights such that something holds for the arcs of all nights up to it, together: if it holds for some arcs, it must hold for more of them, too.
func (q question) firstThat(nights []group[int], holds func(n api.Net, arcs []int) (bool, api.Errno)) int {
	i := sort.Search(len(nights), func(i int) bool {
		is, _ := holds(q.plain(), arcsOf(nights[:i+1]))
		return is
	})
	if i == len(nights) {
		return never
	}
	return nights[i].key
}

// sometimes returns the groups to which some shares give more than 0. Shares that give the most to all that are left tell of many at once.
func (q question) sometimes(groups []group[api.Square]) []group[api.Square] {
	var out []group[api.Square]
	for left := groups; len(left) > 0; {
		f, _ := flows.Most(q.plain(), arcsOf(left))
		given, rest := parted(left, f)
		if len(given) == 0 {
			break
		}
		out, left = append(out, given...), rest
	}
	return out
}

// always returns the groups to which all shares give more than 0. Shares that give the least to one group often give nothing to others too.
func (q question) always(groups []group[api.Square]) []group[api.Square] {
	f, _ := flows.Least(q.plain(), arcsOf(groups))
	left, _ := parted(groups, f)
	var out []group[api.Square]
	for len(left) > 0 {
		g := left[0]
		f, _ := flows.Least(q.plain(), g.arcs)
		if isGiven(f, g) {
			out = append(out, g)
		}
		left, _ = parted(left[1:], f)
	}
	return out
}

// parted returns the groups to which shares give more than 0, and the others.
func parted[K comparable](groups []group[K], shares []int) (given, rest []group[K]) {
	for _, g := range groups {
		if isGiven(shares, g) {
			given = append(given, g)
		} else {
			rest = append(rest, g)
		}
	}
	return given, rest
}

// isGiven reports whether shares give more than 0 to a group.
func isGiven[K comparable](shares []int, g group[K]) bool {
	sum, _ := flows.Sum(shares, g.arcs)
	return sum > 0
}
