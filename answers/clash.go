package answers

import (
	"iter"
	"slices"

	"noctuary/api"
	"noctuary/flows"
)

const maxClash = 12 // records of a case whose contradictions may be asked for

// Clash returns the least set of records that cannot all be right.
func Clash(c api.Case) ([]int, api.Errno) {
	q, e := ask(c)
	if e != api.OK {
		return nil, e
	}
	if len(q.Records) > maxClash {
		return nil, api.ErrLimit
	}
	if is, _ := flows.Feasible(q.plain()); is {
		return nil, api.ErrNone
	}
	return q.clash(), api.OK
}

// clash returns the first one of the smallest sets of records that cannot be right, if not all of them can. What lies in a set that can be right can be so as well, and need not be tried.
func (q question) clash() []int {
	var right [][]int
search:
	for set := range sets(len(q.Records)) {
		for _, l := range right {
			if hasAll(l, set) {
				continue search
			}
		}
		wide, can := q.widest(set)
		if !can {
			return set
		}
		right = append(right, wide)
	}
	return nil
}

// widest returns records that can be right together, if those of a set can: all of these, and so many more that no further one can be added.
func (q question) widest(set []int) (wide []int, can bool) {
	wide, can = q.rightWith(set)
	if !can {
		return nil, false
	}
	for i := range q.Records {
		if slices.Contains(wide, i) {
			continue
		}
		if wider, can := q.rightWith(append(wide, i)); can {
			wide = wider
		}
	}
	return wide, true
}

// rightWith returns the records that are right in some shares in which those of a set are, if there are such shares.
func (q question) rightWith(set []int) (right []int, can bool) {
	f, e := flows.Flow(q.only(set))
	if e != api.OK {
		return nil, false
	}
	for i := range q.Records {
		if arc := q.records + i; f[arc] >= q.arcs[arc].Lo {
			right = append(right, i)
		}
	}
	return right, true
}

// only returns the net in which the counts of all records but some are uncertain.
func (q question) only(set []int) api.Net {
	var others []int
	for i := range q.Records {
		if !slices.Contains(set, i) {
			others = append(others, q.records+i)
		}
	}
	n, _ := flows.Relax(q.plain(), others)
	return n
}

// hasAll reports whether a list has all elements of another one.
func hasAll(l, some []int) bool {
	return !slices.ContainsFunc(some, func(x int) bool { return !slices.Contains(l, x) })
}

// sets yields all sets of numbers less than n, the smallest ones first, and those of one size in order.
func sets(n int) iter.Seq[[]int] {
	return func(yield func([]int) bool) {
		for size := range n + 1 {
			if !extend(nil, size, n, yield) {
				return
			}
		}
	}
}

// extend yields the sets that begin with some numbers and have further ones, which are less than n, and reports whether there is to be a next one.
func extend(begun []int, further, n int, yield func([]int) bool) bool {
	if further == 0 {
		return yield(slices.Clone(begun))
	}
	first := 0
	if len(begun) > 0 {
		first = begun[len(begun)-1] + 1
	}
	for x := first; x < n; x++ {
		if !extend(append(begun, x), further-1, n, yield) {
			return false
		}
	}
	return true
}
