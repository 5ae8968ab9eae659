package places_test

import (
	"math/rand/v2"
	"slices"
	"testing"

	"noctuary/api"
	"noctuary/places"
)

// sq is a square in the order in which the document writes it.
func sq(level, x, y int) api.Square { return api.Square{Level: level, X: x, Y: y} }

// sample is the region of the chapter's examples.
func sample() []api.Square { return []api.Square{sq(0, 9, 9), sq(1, 2, 1)} }

// badSquares are squares that are not valid.
func badSquares() []api.Square {
	huge := int(^uint(0) >> 1)
	return []api.Square{
		sq(-1, 0, 0), sq(11, 0, 0), sq(huge, 0, 0), sq(-huge-1, 0, 0),
		sq(0, -1, 0), sq(0, 0, -1), sq(0, 1024, 0), sq(0, 0, 1024), sq(0, huge, 0), sq(0, 0, -huge-1),
		sq(5, 32, 0), sq(5, 0, 32), sq(9, 2, 0), sq(9, 0, 2), sq(10, 1, 0), sq(10, 0, 1), sq(10, -1, -1),
	}
}

// badRegions are lists of squares that are no regions.
func badRegions() map[string][]api.Square {
	return map[string][]api.Square{
		"Level not in order":       {sq(1, 2, 1), sq(0, 9, 9)},
		"Y not in order":           {sq(0, 0, 1), sq(0, 1, 0)},
		"X not in order":           {sq(0, 1, 0), sq(0, 0, 0)},
		"one twice":                {sq(0, 9, 9), sq(0, 9, 9)},
		"one in its parent":        {sq(0, 5, 3), sq(1, 2, 1)},
		"one far down in another":  {sq(0, 5, 3), sq(7, 0, 0)},
		"one in the whole map":     {sq(9, 1, 1), sq(10, 0, 0)},
		"all children":             {sq(0, 4, 2), sq(0, 5, 2), sq(0, 4, 3), sq(0, 5, 3)},
		"all children, and others": {sq(0, 900, 900), sq(3, 4, 2), sq(3, 5, 2), sq(3, 6, 2), sq(3, 4, 3), sq(3, 5, 3)},
		"all children of the map":  {sq(9, 0, 0), sq(9, 1, 0), sq(9, 0, 1), sq(9, 1, 1)},
		"one is not valid":         {sq(0, 0, 0), sq(0, 1024, 0)},
		"the first is not valid":   {sq(-1, 0, 0), sq(0, 0, 0)},
		"too many":                 scattered(api.MaxSquares+1, 0, 0),
	}
}

// scattered returns n squares of level 0 with gaps between them, from a cell on: a region, if they are not too many.
func scattered(n, x, y int) []api.Square {
	var l []api.Square
	for i := range n {
		l = append(l, sq(0, x+2*(i%256), y+2*(i/256)))
	}
	return l
}

// cell is a square of level 0.
type cell struct{ x, y int }

// both returns what two sets have.
func both(a, b map[cell]bool) map[cell]bool {
	out := map[cell]bool{}
	for c := range a {
		if b[c] {
			out[c] = true
		}
	}
	return out
}

// cells returns what squares cover.
func cells(l []api.Square) map[cell]bool {
	out := map[cell]bool{}
	for _, s := range l {
		side := 1 << s.Level
		for y := range side {
			for x := range side {
				out[cell{s.X*side + x, s.Y*side + y}] = true
			}
		}
	}
	return out
}

// regionOf returns the region that covers some cells, by counting how many of them each square has.
func regionOf(set map[cell]bool) []api.Square {
	count := map[api.Square]int{}
	for c := range set {
		for level := range api.MaxLevel + 1 {
			count[sq(level, c.x>>level, c.y>>level)]++
		}
	}
	full := func(s api.Square) bool { return count[s] == 1<<(2*s.Level) }
	var out []api.Square
	for s := range count {
		up := sq(s.Level+1, s.X/2, s.Y/2)
		if full(s) && (s.Level == api.MaxLevel || !full(up)) {
			out = append(out, s)
		}
	}
	slices.SortFunc(out, before)
	return out
}

func before(a, b api.Square) int {
	return slices.Compare([]int{a.Level, a.Y, a.X}, []int{b.Level, b.Y, b.X})
}

// someSquares returns squares near a corner of the map, which may be equal and lie in one another.
func someSquares(r *rand.Rand) []api.Square {
	n := r.IntN(20)
	if r.IntN(4) == 0 {
		n = 100 + r.IntN(100)
	}
	far := r.IntN(2) // of two places that are apart
	var l []api.Square
	for range n {
		level := max(0, r.IntN(8)-4)
		side := 1 << (4 - level)
		from := far * r.IntN(2) * (1<<(api.MaxLevel-level) - side)
		l = append(l, sq(level, from+r.IntN(side), from+r.IntN(side)))
	}
	return l
}

func someRegion(r *rand.Rand) []api.Square { return regionOf(cells(someSquares(r))) }

func random() *rand.Rand { return rand.New(rand.NewPCG(7, 11)) }

func wantSquares(t *testing.T, what string, got []api.Square, e api.Errno, want []api.Square) {
	t.Helper()
	if e != api.OK || !slices.Equal(got, want) {
		t.Fatalf("%s: %v, error %d; want %v", what, short(got), e, short(want))
	}
}

// short keeps messages readable.
func short(l []api.Square) []api.Square { return l[:min(len(l), 30)] }

// wantNone checks that a call that returns squares returns an error, and nothing else.
func wantNone(t *testing.T, what string, got []api.Square, e, want api.Errno) {
	t.Helper()
	if e != want || len(got) != 0 {
		t.Errorf("%s: %v, error %d; want error %d alone", what, short(got), e, want)
	}
}

// must returns the region of a call that must not fail.
func must(t *testing.T) func([]api.Square, api.Errno) []api.Square {
	return func(l []api.Square, e api.Errno) []api.Square {
		t.Helper()
		if e != api.OK {
			t.Fatalf("error %d", e)
		}
		return l
	}
}

// operation is a function of two regions, with what its result must cover.
type operation struct {
	of    func(a, b []api.Square) ([]api.Square, api.Errno)
	cover func(inA, inB bool) bool
}

func algebra() map[string]operation {
	return map[string]operation{
		"Union":     {places.Union, func(inA, inB bool) bool { return inA || inB }},
		"Intersect": {places.Intersect, func(inA, inB bool) bool { return inA && inB }},
		"Minus":     {places.Minus, func(inA, inB bool) bool { return inA && !inB }},
	}
}
