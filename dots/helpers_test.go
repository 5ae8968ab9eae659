package dots_test

import (
	"fmt"
	"iter"
	"math/rand/v2"
	"slices"
	"testing"

	"noctuary/api"
	"noctuary/places"
)

const huge = int(^uint(0) >> 1)

// name is the name that is asked for; there are maps of other, too.
const (
	name  = 5
	other = 6
)

// sq is a square in the order in which the document writes it.
func sq(level, x, y int) api.Square { return api.Square{Level: level, X: x, Y: y} }

func licence(level, least int) api.Licence {
	return api.Licence{Name: name, Level: level, Least: least}
}

func dotMap(dots, region []api.Square) api.DotMap {
	return api.DotMap{Name: name, Dots: dots, Region: region}
}

func whole() []api.Square { return []api.Square{sq(api.MaxLevel, 0, 0)} }

// text tells all of a value; a nil slice and an empty one are told in the same way.
func text(x any) string { return fmt.Sprint(x) }

func same[T any](a, b T) bool { return text(a) == text(b) }

// short keeps messages readable.
func short(x any) string {
	s := text(x)
	return s[:min(len(s), 300)]
}

// want checks the result of a call that must not fail.
func want[T any](t *testing.T, what string, got T, e api.Errno, expected T) {
	t.Helper()
	if e != api.OK || !same(got, expected) {
		t.Errorf("%s: %s, error %d; want %s", what, short(got), e, short(expected))
	}
}

// wantBoth checks a result and an error, whatever this is.
func wantBoth[T any](t *testing.T, what string, got T, e api.Errno, expected T, error api.Errno) {
	t.Helper()
	if e != error || !same(got, expected) {
		t.Errorf("%s: %s, error %d; want %s, error %d", what, short(got), e, short(expected), error)
	}
}

// wantError checks that a call returned an error, and nothing else.
func wantError[T any](t *testing.T, what string, got T, e, error api.Errno) {
	t.Helper()
	var none T
	wantBoth(t, what, got, e, none, error)
}

func order(a, b api.Square) int {
	return slices.Compare([]int{a.Level, a.Y, a.X}, []int{b.Level, b.Y, b.X})
}

// sorted returns squares in order, each once.
func sorted(l ...api.Square) []api.Square {
	out := slices.Clone(l)
	slices.SortFunc(out, order)
	return slices.Compact(out)
}

// up returns the square of a level in which a square lies.
func up(s api.Square, level int) api.Square {
	return sq(level, s.X>>(level-s.Level), s.Y>>(level-s.Level))
}

func within(a, b api.Square) bool { return a.Level <= b.Level && up(a, b.Level) == b }

// isIn reports whether a square lies in one of a list.
func isIn(s api.Square, l []api.Square) bool {
	return slices.ContainsFunc(l, func(q api.Square) bool { return within(s, q) })
}

// hasOf reports whether one of some small squares lies in a square.
func hasOf(s api.Square, small []api.Square) bool {
	return slices.ContainsFunc(small, func(q api.Square) bool { return within(q, s) })
}

// those returns what of a list is as it is asked for.
func those(l []api.Square, is func(api.Square) bool) []api.Square {
	var out []api.Square
	for _, s := range l {
		if is(s) {
			out = append(out, s)
		}
	}
	return out
}

// smallOf returns the small squares of some squares, which must not be great, in order.
func smallOf(l []api.Square) []api.Square {
	var out []api.Square
	for _, s := range l {
		side := 1 << s.Level
		for y := range side {
			for x := range side {
				out = append(out, sq(0, s.X*side+x, s.Y*side+y))
			}
		}
	}
	return sorted(out...)
}

// regionOf returns the region of squares.
func regionOf(l []api.Square) []api.Square {
	out, e := places.Normal(l)
	if e != api.OK {
		panic("no region")
	}
	return out
}

// outerOf is Outer by the chapter's words.
func outerOf(l []api.Square) []api.Square {
	return sorted(those(l, func(s api.Square) bool {
		return !slices.ContainsFunc(l, func(q api.Square) bool { return q != s && within(s, q) })
	})...)
}

// frameOf returns the square of the least level in which all of some small squares lie.
func frameOf(small []api.Square) api.Square {
	for level := range api.MaxLevel {
		s := up(small[0], level)
		if len(those(small, func(q api.Square) bool { return within(q, s) })) == len(small) {
			return s
		}
	}
	return sq(api.MaxLevel, 0, 0)
}

// scene is a small county with maps.
type scene struct {
	county []api.Square
	small  []api.Square // those of the county
	maps   []api.DotMap
}

// of returns the maps of the name.
func (c scene) of() []api.DotMap {
	var out []api.DotMap
	for _, m := range c.maps {
		if m.Name == name {
			out = append(out, m)
		}
	}
	return out
}

// allowed returns the small squares that are allowed, in order.
func (c scene) allowed() []api.Square {
	return those(c.small, func(s api.Square) bool {
		for _, m := range c.of() {
			if isIn(s, m.Region) && !isIn(s, m.Dots) {
				return false
			}
		}
		return true
	})
}

// parts returns the parts of all dots, as small squares in order.
func (c scene) parts() [][]api.Square {
	var out [][]api.Square
	allowed := c.allowed()
	for _, m := range c.of() {
		for _, dot := range m.Dots {
			out = append(out, those(allowed, func(s api.Square) bool { return within(s, dot) }))
		}
	}
	return out
}

// isWorld reports whether small squares of the county are a world, by its definition.
func (c scene) isWorld(f []api.Square) bool {
	for _, m := range c.of() {
		for _, dot := range m.Dots {
			if !hasOf(dot, f) {
				return false
			}
		}
		for _, s := range f {
			if isIn(s, m.Region) && !isIn(s, m.Dots) {
				return false
			}
		}
	}
	return true
}

// sets yields all sets of small squares of the county.
func (c scene) sets() iter.Seq[[]api.Square] {
	return func(yield func([]api.Square) bool) {
		for bits := range 1 << len(c.small) {
			var f []api.Square
			for i, s := range c.small {
				if bits>>i&1 == 1 {
					f = append(f, s)
				}
			}
			if !yield(f) {
				return
			}
		}
	}
}

// worlds returns all worlds.
func (c scene) worlds() [][]api.Square {
	var out [][]api.Square
	for f := range c.sets() {
		if c.isWorld(f) {
			out = append(out, f)
		}
	}
	return out
}

// squares returns all squares in which small squares of the county lie, and some others.
func (c scene) squares() []api.Square {
	out := []api.Square{sq(0, 9, 3), sq(1, 4, 1), sq(3, 60, 60), sq(5, 31, 0)}
	for _, s := range c.small {
		for level := range api.MaxLevel + 1 {
			out = append(out, up(s, level))
		}
	}
	return sorted(out...)
}

func random() *rand.Rand { return rand.New(rand.NewPCG(8, 20)) }

// pick returns any element of a list.
func pick[T any](r *rand.Rand, l ...T) T { return l[r.IntN(len(l))] }

// someOf returns up to most elements of a list, in any order, each once.
func someOf(r *rand.Rand, l []api.Square, most int) []api.Square {
	out := slices.Clone(l)
	r.Shuffle(len(out), func(i, k int) { out[i], out[k] = out[k], out[i] })
	return out[:r.IntN(min(most, len(l))+1)]
}

// near returns any square of a level that lies in the square of level 3, or in which it lies.
func near(r *rand.Rand, home api.Square, level int) api.Square {
	if level >= home.Level {
		return up(home, level)
	}
	side := 1 << (home.Level - level)
	return sq(level, home.X*side+r.IntN(side), home.Y*side+r.IntN(side))
}

func someSquares(r *rand.Rand, home api.Square, most int) []api.Square {
	var out []api.Square
	for range r.IntN(most + 1) {
		out = append(out, near(r, home, pick(r, 0, 0, 0, 1, 1, 1, 2, 2, 3, 4, 10)))
	}
	return out
}

// someCounty returns a county of up to most small squares.
func someCounty(r *rand.Rand, home api.Square, most int) []api.Square {
	var l []api.Square
	for range r.IntN(most + 1) {
		s := near(r, home, 0)
		if r.IntN(2) == 0 {
			s.X, s.Y = s.X&^7+s.X&3, s.Y&^7+s.Y&3 // in a corner, where they touch
		}
		l = append(l, s)
	}
	if most > 30 {
		l = append(l, smallOf([]api.Square{near(r, home, 2), near(r, home, 1)})...)
	}
	if r.IntN(8) == 0 {
		l = append(l, sq(0, 777, 333))
	}
	return regionOf(l)
}

func someMap(r *rand.Rand, c scene, home api.Square) api.DotMap {
	m := api.DotMap{Name: pick(r, name, name, name, name, other)}
	for _, s := range outerOf(someSquares(r, home, 4)) {
		if hasOf(s, c.small) {
			m.Dots = append(m.Dots, s)
		}
	}
	switch r.IntN(4) {
	case 0:
		m.Region = slices.Clone(c.county)
	case 1:
		m.Region = regionOf(someSquares(r, home, 3))
	case 2:
		m.Region = regionOf(smallOf([]api.Square{near(r, home, 2)})[r.IntN(8):])
	}
	return m
}

// someScene returns a scene with a county of up to most small squares.
func someScene(r *rand.Rand, most int) scene {
	home := pick(r, sq(3, 0, 0), sq(3, 63, 64), sq(3, 127, 127), sq(3, 100, 7))
	c := scene{county: someCounty(r, home, most)}
	c.small = smallOf(c.county)
	for range r.IntN(4) {
		c.maps = append(c.maps, someMap(r, c, home))
	}
	return c
}

// eachScene calls a test with many scenes, until it fails.
func eachScene(t *testing.T, count, most int, do func(r *rand.Rand, c scene)) {
	t.Helper()
	r := random()
	for range count {
		c := someScene(r, most)
		do(r, c)
		if t.Failed() {
			t.Fatalf("the county was %v, the maps %v", c.county, c.maps)
		}
	}
}

// eachTrue is eachScene with the scenes whose maps do not contradict one another alone.
func eachTrue(t *testing.T, count, most int, do func(r *rand.Rand, c scene)) {
	t.Helper()
	n := 0
	eachScene(t, count, most, func(r *rand.Rand, c scene) {
		if c.isTrue() {
			n++
			do(r, c)
		}
	})
	if n < count/3 || n == count {
		t.Errorf("%d of %d scenes are true", n, count)
	}
}

// isTrue reports whether there is a world.
func (c scene) isTrue() bool {
	return !slices.ContainsFunc(c.parts(), func(part []api.Square) bool { return len(part) == 0 })
}

// grid returns n by n small squares with gaps between them, from a place on.
func grid(n, step, x, y int) []api.Square {
	var out []api.Square
	for k := range n {
		for i := range n {
			out = append(out, sq(0, x+step*i, y+step*k))
		}
	}
	return out
}
