package places_test

import (
	"testing"

	"noctuary/api"
	"noctuary/places"
)

// cornerSquares are squares of all levels, at the corners of the map and between them.
func cornerSquares() []api.Square {
	var l []api.Square
	for level := range api.MaxLevel + 1 {
		side := 1 << (api.MaxLevel - level)
		for _, x := range []int{0, side / 3, side - 1} {
			for _, y := range []int{0, side / 2, side - 1} {
				l = append(l, sq(level, x, y))
			}
		}
	}
	return l
}

// smallSquares are all squares of the levels 0 to 3 near the origin.
func smallSquares() []api.Square {
	var l []api.Square
	for level := range 4 {
		for y := range 8 >> level {
			for x := range 8 >> level {
				l = append(l, sq(level, x, y))
			}
		}
	}
	return l
}

// P1.1 (L1).
func TestValidSquare(t *testing.T) {
	for _, s := range cornerSquares() {
		if !places.ValidSquare(s) {
			t.Errorf("ValidSquare(%v): false", s)
		}
	}
	for _, s := range badSquares() {
		if places.ValidSquare(s) {
			t.Errorf("ValidSquare(%v): true", s)
		}
	}
	for level := range api.MaxLevel + 1 {
		side := 1 << (api.MaxLevel - level)
		for _, s := range []api.Square{sq(level, side, 0), sq(level, 0, side), sq(level, -1, 0), sq(level, 0, -1)} {
			if places.ValidSquare(s) {
				t.Errorf("ValidSquare(%v): true", s)
			}
		}
	}
}

// P1.1 (L2 to L5): the examples.
func TestSquareExamples(t *testing.T) {
	if p, e := places.Parent(sq(0, 5, 3)); e != api.OK || p != sq(1, 2, 1) {
		t.Errorf("Parent: %v, error %d", p, e)
	}
	l, e := places.Children(sq(1, 2, 1))
	wantSquares(t, "Children", l, e, []api.Square{sq(0, 4, 2), sq(0, 5, 2), sq(0, 4, 3), sq(0, 5, 3)})
	if in, e := places.Within(sq(0, 5, 3), sq(2, 1, 0)); e != api.OK || !in {
		t.Errorf("Within: %v, error %d", in, e)
	}
	if b, e := places.Blur(sq(0, 5, 3), 3); e != api.OK || b != sq(3, 0, 0) {
		t.Errorf("Blur: %v, error %d", b, e)
	}
	if in, e := places.Within(sq(0, 5, 6), sq(3, 0, 0)); e != api.OK || !in {
		t.Errorf("Within of DOC.md: %v, error %d", in, e)
	}
}

// P1.1 (L2): the parent covers the square, and is of the next level.
func TestParent(t *testing.T) {
	for _, s := range cornerSquares() {
		p, e := places.Parent(s)
		if s.Level == api.MaxLevel {
			if e != api.ErrArg || p != (api.Square{}) {
				t.Errorf("Parent(%v): %v, error %d", s, p, e)
			}
			continue
		}
		if e != api.OK || p != sq(s.Level+1, s.X/2, s.Y/2) {
			t.Errorf("Parent(%v): %v, error %d", s, p, e)
		}
	}
	for _, s := range badSquares() {
		if p, e := places.Parent(s); e != api.ErrSquare || p != (api.Square{}) {
			t.Errorf("Parent(%v): %v, error %d", s, p, e)
		}
	}
}

// P1.1 (L3): the children cover what the square covers, in order of Y, then X.
func TestChildren(t *testing.T) {
	for _, s := range cornerSquares() {
		l, e := places.Children(s)
		if s.Level == 0 {
			wantNone(t, "Children of a small square", l, e, api.ErrArg)
			continue
		}
		x, y := 2*s.X, 2*s.Y
		want := []api.Square{sq(s.Level-1, x, y), sq(s.Level-1, x+1, y), sq(s.Level-1, x, y+1), sq(s.Level-1, x+1, y+1)}
		wantSquares(t, "Children", l, e, want)
	}
	for _, s := range badSquares() {
		l, e := places.Children(s)
		wantNone(t, "Children of no square", l, e, api.ErrSquare)
	}
}

// P1.1 (L4): a square lies in another one if that one covers all that it covers.
func TestWithin(t *testing.T) {
	for _, a := range smallSquares() {
		for _, b := range smallSquares() {
			want, of := true, cells([]api.Square{b})
			for c := range cells([]api.Square{a}) {
				want = want && of[c]
			}
			if in, e := places.Within(a, b); e != api.OK || in != want {
				t.Fatalf("Within(%v, %v): %v, error %d", a, b, in, e)
			}
		}
	}
	for _, s := range cornerSquares() {
		if in, e := places.Within(s, sq(api.MaxLevel, 0, 0)); e != api.OK || !in {
			t.Errorf("Within(%v, the whole map): %v, error %d", s, in, e)
		}
	}
	for _, s := range badSquares() {
		if in, e := places.Within(s, sq(10, 0, 0)); e != api.ErrSquare || in {
			t.Errorf("Within(%v, the whole map): %v, error %d", s, in, e)
		}
		if in, e := places.Within(sq(0, 0, 0), s); e != api.ErrSquare || in {
			t.Errorf("Within a square that is not valid, %v: %v, error %d", s, in, e)
		}
	}
}

// P1.1 (L5).
func TestBlur(t *testing.T) {
	for _, s := range cornerSquares() {
		for _, level := range []int{-1, s.Level - 1, api.MaxLevel + 1, 1 << 40, -1 << 40} {
			if b, e := places.Blur(s, level); e != api.ErrArg || b != (api.Square{}) {
				t.Errorf("Blur(%v, %d): %v, error %d", s, level, b, e)
			}
		}
		for level := s.Level; level <= api.MaxLevel; level++ {
			b, e := places.Blur(s, level)
			if e != api.OK || b != sq(level, s.X>>(level-s.Level), s.Y>>(level-s.Level)) {
				t.Errorf("Blur(%v, %d): %v, error %d", s, level, b, e)
			}
		}
	}
	for _, s := range badSquares() {
		for _, level := range []int{5, 99} {
			if b, e := places.Blur(s, level); e != api.ErrSquare || b != (api.Square{}) {
				t.Errorf("Blur(%v, %d): %v, error %d", s, level, b, e)
			}
		}
	}
}

// P1.2: a square is among the children of its parent, and the parent of each of its children.
func TestParentsAndChildren(t *testing.T) {
	for _, s := range cornerSquares() {
		if p, e := places.Parent(s); e == api.OK {
			n := 0
			for _, c := range must(t)(places.Children(p)) {
				if c == s {
					n++
				}
			}
			if n != 1 {
				t.Errorf("%v is %d of the children of its parent", s, n)
			}
		}
		l, _ := places.Children(s)
		for _, c := range l {
			if p, e := places.Parent(c); e != api.OK || p != s {
				t.Errorf("Parent(%v): %v, error %d; want %v", c, p, e, s)
			}
		}
	}
}

// P1.2: of two squares one lies in the other one, or they cover nothing in common.
func TestSquaresNestOrAreApart(t *testing.T) {
	for _, a := range smallSquares() {
		for _, b := range smallSquares() {
			n := len(both(cells([]api.Square{a}), cells([]api.Square{b})))
			ab, _ := places.Within(a, b)
			ba, _ := places.Within(b, a)
			if (ab || ba) != (n > 0) || (ab && ba) != (a == b) {
				t.Fatalf("%v and %v have %d cells in common; Within: %v, %v", a, b, n, ab, ba)
			}
		}
	}
}

// P1.2: Blur by one level and then by another one is Blur by the greater one.
func TestBlurTwice(t *testing.T) {
	for _, s := range cornerSquares() {
		for one := s.Level; one <= api.MaxLevel; one++ {
			first, _ := places.Blur(s, one)
			for two := one; two <= api.MaxLevel; two++ {
				twice, e := places.Blur(first, two)
				once, f := places.Blur(s, two)
				if e != api.OK || f != api.OK || twice != once {
					t.Errorf("Blur(%v) to %d, then %d: %v; at once: %v", s, one, two, twice, once)
				}
			}
		}
	}
}
