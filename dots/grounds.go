package dots

import (
	"cmp"
	"iter"
	"math/bits"
	"slices"

	"noctuary/api"
)

// stretch is the small squares with the numbers from from to to - 1. They are numbered such that those of each square follow one another: those of its first child, by Y, then X, then those of the second one, and so on. So each square is a stretch, and of the stretches of two squares either one lies in the other one, or they have nothing in common.
type stretch struct{ from, to int }

// stretchOf returns the small squares of a square.
func stretchOf(s api.Square) stretch {
	n := 0
	for bit := api.MaxLevel - s.Level - 1; bit >= 0; bit-- {
		n = 4*n + 2*(s.Y>>bit&1) + s.X>>bit&1
	}
	return stretch{from: n * sizeOf(s.Level), to: (n + 1) * sizeOf(s.Level)}
}

// sizeOf returns how many small squares a square of a level has.
func sizeOf(level int) int { return 1 << (2 * level) }

// squareAt returns the square of a level that has the small square with a number.
func squareAt(number, level int) api.Square {
	s := api.Square{Level: level}
	for bit := range api.MaxLevel - level {
		child := number >> (2 * (level + bit)) & 3
		s.X += child & 1 << bit
		s.Y += child >> 1 << bit
	}
	return s
}

// square returns the square that a stretch is.
func (t stretch) square() api.Square {
	return squareAt(t.from, bits.Len(uint(t.to-t.from))/2)
}

// head returns the greatest square, as a stretch, that begins where a stretch does, and lies in it.
func (t stretch) head() stretch {
	size := 1
	for t.from%(4*size) == 0 && t.from+4*size <= t.to {
		size *= 4
	}
	return stretch{from: t.from, to: t.from + size}
}

// ground is any set of small squares: stretches in order, with gaps between them. Unlike a region it may have any number of squares, as there may be on the way to a region.
type ground []stretch

// groundOf returns the ground of some squares.
func groundOf(l []api.Square) ground { return joined(outermost(l)) }

// outermost returns, in the order of the ground, those of some squares that lie in no other one of them, each once.
func outermost(l []api.Square) []stretch {
	all := make([]stretch, 0, len(l))
	for _, s := range l {
		all = append(all, stretchOf(s))
	}
	slices.SortFunc(all, alongGround)
	out := all[:0]
	end := 0
	for _, t := range all {
		if t.to > end {
			out = append(out, t)
			end = t.to
		}
	}
	return out
}

// alongGround compares stretches by where they begin; a longer one is less.
func alongGround(a, b stretch) int {
	if a.from != b.from {
		return cmp.Compare(a.from, b.from)
	}
	return cmp.Compare(b.to, a.to)
}

// joined returns the ground of stretches in the order of alongGround, which may meet and touch one another. It takes their place.
func joined(l []stretch) ground {
	out := l[:0]
	for _, t := range l {
		if k := len(out) - 1; k >= 0 && t.from <= out[k].to {
			out[k].to = max(out[k].to, t.to)
			continue
		}
		out = append(out, t)
	}
	return out
}

// union returns what any of some grounds has.
func union(l ...ground) ground {
	all := slices.Concat(l...)
	slices.SortFunc(all, alongGround)
	return joined(all)
}

// without returns what a ground has and none of others.
func without(g ground, others ...ground) ground {
	var out ground
	taken := union(others...)
	for _, t := range g {
		for _, gone := range taken.meeting(t) {
			if t.from < gone.from {
				out = append(out, stretch{from: t.from, to: gone.from})
			}
			t.from = gone.to
		}
		if t.from < t.to {
			out = append(out, t)
		}
	}
	return out
}

// common returns what both of two grounds have.
func common(a, b ground) ground { return without(a, without(a, b)) }

// find returns the bounds of the stretches of a ground that have something in common with another one.
func (g ground) find(t stretch) (first, behind int) {
	first, _ = slices.BinarySearchFunc(g, t.from, func(x stretch, from int) int { return cmp.Compare(x.to, from+1) })
	behind, _ = slices.BinarySearchFunc(g, t.to, func(x stretch, to int) int { return cmp.Compare(x.from, to) })
	return first, behind
}

// meeting returns the stretches of a ground, whole, that have something in common with another one.
func (g ground) meeting(t stretch) ground {
	first, behind := g.find(t)
	return g[first:behind]
}

// meets reports whether a ground has some of a square.
func (g ground) meets(s api.Square) bool { return len(g.meeting(stretchOf(s))) > 0 }

// in returns what of a ground lies in a square.
func (g ground) in(s api.Square) ground {
	t := stretchOf(s)
	out := slices.Clone(g.meeting(t))
	if k := len(out) - 1; k >= 0 {
		out[0].from = max(out[0].from, t.from)
		out[k].to = min(out[k].to, t.to)
	}
	return out
}

// area returns the number of small squares of a ground.
func (g ground) area() int {
	n := 0
	for _, t := range g {
		n += t.to - t.from
	}
	return n
}

// frame returns the square of the least level within which a ground lies that is not empty.
func (g ground) frame() api.Square {
	first, last := g[0].from, g[len(g)-1].to-1
	level := 0
	for first/sizeOf(level) != last/sizeOf(level) {
		level++
	}
	return squareAt(first, level)
}

// first returns the first small square of a ground that is not empty, by Y, then X.
func (g ground) first() api.Square {
	out := squareAt(g[0].from, 0)
	for t := range g.squares() {
		if s := squareAt(t.from, 0); order(s, out) < 0 {
			out = s
		}
	}
	return out
}

// squares yields the squares, as stretches, of the region that a ground is.
func (g ground) squares() iter.Seq[stretch] {
	return func(yield func(stretch) bool) {
		for _, t := range g {
			for t.from < t.to {
				s := t.head()
				if !yield(s) {
					return
				}
				t.from = s.to
			}
		}
	}
}

// count returns how many squares the region has that a ground is.
func (g ground) count() int {
	n := 0
	for range g.squares() {
		n++
	}
	return n
}

// region returns a ground as a region, if it does not have too many squares.
func (g ground) region() ([]api.Square, api.Errno) {
	if g.count() > api.MaxSquares {
		return nil, api.ErrLimit
	}
	var out []api.Square
	for t := range g.squares() {
		out = append(out, t.square())
	}
	slices.SortFunc(out, order)
	return out, api.OK
}

// order compares squares by Level, then Y, then X.
func order(a, b api.Square) int {
	switch {
	case a.Level != b.Level:
		return cmp.Compare(a.Level, b.Level)
	case a.Y != b.Y:
		return cmp.Compare(a.Y, b.Y)
	}
	return cmp.Compare(a.X, b.X)
}
