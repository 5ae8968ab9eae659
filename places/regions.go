package places

import (
	"iter"
	"slices"

	"noctuary/api"
)

// ValidRegion reports whether a list is a region.
func ValidRegion(l []api.Square) bool {
	if len(l) > api.MaxSquares {
		return false
	}
	for i, s := range l {
		if !ValidSquare(s) || i > 0 && order(l[i-1], s) >= 0 {
			return false
		}
	}
	c := coverOf(l)
	for _, s := range l {
		if c.hasAround(s) || c.leads(s) {
			return false
		}
	}
	return true
}

// Normal returns the region of some squares.
func Normal(l []api.Square) ([]api.Square, api.Errno) {
	if len(l) > api.MaxSquares {
		return nil, api.ErrLimit
	}
	for _, s := range l {
		if !ValidSquare(s) {
			return nil, api.ErrSquare
		}
	}
	return normalOf(l).region()
}

// Union returns the region that covers what one of two regions covers.
func Union(a, b []api.Square) ([]api.Square, api.Errno) {
	if !ValidRegion(a) || !ValidRegion(b) {
		return nil, api.ErrRegion
	}
	return normalOf(slices.Concat(a, b)).region()
}

// Intersect returns the region that covers what both of two regions cover.
func Intersect(a, b []api.Square) ([]api.Square, api.Errno) {
	if !ValidRegion(a) || !ValidRegion(b) {
		return nil, api.ErrRegion
	}
	// Where squares of both meet, one lies in the other one, and is the greatest that both regions have there.
	both := coverOf(nil)
	both.addThose(a, coverOf(b))
	both.addThose(b, coverOf(a))
	return both.region()
}

// addThose adds the squares of l that lie in a square of another cover.
func (c cover) addThose(l []api.Square, other cover) {
	for _, s := range l {
		if other.covers(s) {
			c.add(s)
		}
	}
}

// Minus returns the region that covers what a covers and b does not.
func Minus(a, b []api.Square) ([]api.Square, api.Errno) {
	if !ValidRegion(a) || !ValidRegion(b) {
		return nil, api.ErrRegion
	}
	taken := coverOf(b)
	partly := taken.around()
	left := coverOf(nil)
	todo := slices.Clone(a)
	for len(todo) > 0 && left.size() <= api.MaxSquares {
		s := todo[len(todo)-1]
		todo = todo[:len(todo)-1]
		switch {
		case taken.covers(s):
		case partly.hasOne(s):
			todo = append(todo, children(s)...)
		default:
			left.add(s)
		}
	}
	return left.region()
}

// Area returns the number of squares of level 0 that a region covers.
func Area(l []api.Square) (int, api.Errno) {
	if !ValidRegion(l) {
		return 0, api.ErrRegion
	}
	n := 0
	for _, s := range l {
		n += 1 << (2 * s.Level)
	}
	return n, api.OK
}

// Has reports whether a region covers all that a square covers.
func Has(l []api.Square, s api.Square) (bool, api.Errno) {
	if e := checkBoth(l, s); e != api.OK {
		return false, e
	}
	// A region has no four children of one square, so what covers all of s is a single square.
	return slices.ContainsFunc(l, func(q api.Square) bool { return within(s, q) }), api.OK
}

// Meets reports whether a region covers some of what a square covers.
func Meets(l []api.Square, s api.Square) (bool, api.Errno) {
	if e := checkBoth(l, s); e != api.OK {
		return false, e
	}
	return slices.ContainsFunc(l, func(q api.Square) bool { return within(s, q) || within(q, s) }), api.OK
}

// checkBoth returns what is wrong with a region and a square.
func checkBoth(l []api.Square, s api.Square) api.Errno {
	if !ValidRegion(l) {
		return api.ErrRegion
	}
	if !ValidSquare(s) {
		return api.ErrSquare
	}
	return api.OK
}

// Coarse returns all squares of a level that a region meets, in order of Y, then X.
func Coarse(l []api.Square, level int) ([]api.Square, api.Errno) {
	if !ValidRegion(l) {
		return nil, api.ErrRegion
	}
	if level < 0 || level > api.MaxLevel {
		return nil, api.ErrArg
	}
	met := coverOf(nil)
	for s := range atLevel(l, level) {
		met.add(s)
		if met.size() > api.MaxSquares {
			break
		}
	}
	return met.region()
}

// atLevel yields the squares of a level that lie in one of l, or in which one of l lies; some of them more than once.
func atLevel(l []api.Square, level int) iter.Seq[api.Square] {
	return func(yield func(api.Square) bool) {
		for _, s := range l {
			if s.Level <= level {
				if !yield(blur(s, level)) {
					return
				}
				continue
			}
			for q := range pieces(s, level) {
				if !yield(q) {
					return
				}
			}
		}
	}
}

// pieces yields the squares of a lower level that lie in a square.
func pieces(s api.Square, level int) iter.Seq[api.Square] {
	return func(yield func(api.Square) bool) {
		side := 1 << (s.Level - level)
		for y := range side {
			for x := range side {
				if !yield(api.Square{Level: level, X: s.X*side + x, Y: s.Y*side + y}) {
					return
				}
			}
		}
	}
}
