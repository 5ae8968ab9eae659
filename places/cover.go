package places

import (
	"cmp"
	"iter"
	"slices"

	"noctuary/api"
)

// cover is a set of squares, level by level, for what these cover together. It has a map for each level so that a square is not looked for where there are none.
type cover [api.MaxLevel + 1]map[api.Square]bool

func coverOf(l []api.Square) cover {
	var c cover
	for level := range c {
		c[level] = map[api.Square]bool{}
	}
	for _, s := range l {
		c.add(s)
	}
	return c
}

// normalOf returns the cover that has the squares of the region of some valid squares.
func normalOf(l []api.Square) cover {
	c := coverOf(l)
	for _, s := range l {
		if c.hasAround(s) {
			c.drop(s)
		}
	}
	c.join()
	return c
}

func (c cover) add(s api.Square)  { c[s.Level][s] = true }
func (c cover) drop(s api.Square) { delete(c[s.Level], s) }

// size returns the number of squares.
func (c cover) size() int {
	n := 0
	for _, row := range c {
		n += len(row)
	}
	return n
}

// hasOne reports whether a square is one of the cover.
func (c cover) hasOne(s api.Square) bool { return c[s.Level][s] }

// hasAround reports whether a square lies in another one, which is one of the cover.
func (c cover) hasAround(s api.Square) bool {
	for level := s.Level + 1; level <= api.MaxLevel; level++ {
		if c.hasOne(blur(s, level)) {
			return true
		}
	}
	return false
}

// covers reports whether a square lies in one of the cover.
func (c cover) covers(s api.Square) bool {
	return c.hasOne(s) || c.hasAround(s)
}

// leads reports whether a square is the first child of one all of whose children the cover has.
func (c cover) leads(s api.Square) bool {
	if s.Level == api.MaxLevel || s.X%2 != 0 || s.Y%2 != 0 {
		return false
	}
	for _, child := range children(blur(s, s.Level+1)) {
		if !c.hasOne(child) {
			return false
		}
	}
	return true
}

// join lets each square take the place of its children where the cover has all of them.
func (c cover) join() {
	for s := range c.squares() {
		if !c.leads(s) {
			continue
		}
		parent := blur(s, s.Level+1)
		for _, child := range children(parent) {
			c.drop(child)
		}
		c.add(parent)
	}
}

// around returns the squares in which others lie that are of the cover.
func (c cover) around() cover {
	out := coverOf(nil)
	for s := range c.squares() {
		for level := s.Level + 1; level <= api.MaxLevel; level++ {
			q := blur(s, level)
			if out.hasOne(q) {
				break
			}
			out.add(q)
		}
	}
	return out
}

// squares yields the squares of the cover in order, level by level: also those that the loop adds to levels that have not begun.
func (c cover) squares() iter.Seq[api.Square] {
	return func(yield func(api.Square) bool) {
		for level := range c {
			for _, s := range c.row(level) {
				if !yield(s) {
					return
				}
			}
		}
	}
}

// row returns the squares of a level, in order.
func (c cover) row(level int) []api.Square {
	l := make([]api.Square, 0, len(c[level]))
	for s := range c[level] {
		l = append(l, s)
	}
	slices.SortFunc(l, order)
	return l
}

// region returns the squares of the cover in order, if they are not too many.
func (c cover) region() ([]api.Square, api.Errno) {
	if c.size() > api.MaxSquares {
		return nil, api.ErrLimit
	}
	return slices.Collect(c.squares()), api.OK
}

// order compares squares by Level, then Y, then X.
func order(a, b api.Square) int {
	switch {
	case a.Level != b.Level:
		return cmp.Compare(a.Level, b.Level)
	case a.Y != b.Y:
		return cmp.Compare(a.Y, b.Y)
	}
	return cmp.Compare(a.X, b.X)
}
