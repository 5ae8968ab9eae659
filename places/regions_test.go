package places_test

import (
	"maps"
	"slices"
	"testing"

	"noctuary/api"
	"noctuary/places"
)

// P1.1 (L6).
func TestValidRegion(t *testing.T) {
	good := map[string][]api.Square{
		"nothing":                      nil,
		"an empty list":                {},
		"the sample":                   sample(),
		"the whole map":                {sq(10, 0, 0)},
		"three children":               {sq(0, 4, 2), sq(0, 5, 2), sq(0, 4, 3)},
		"four beside one another":      {sq(0, 5, 2), sq(0, 6, 2), sq(0, 5, 3), sq(0, 6, 3)},
		"four across":                  {sq(2, 1, 1), sq(2, 2, 1), sq(2, 1, 2), sq(2, 2, 2)},
		"four in a row":                {sq(0, 0, 0), sq(0, 1, 0), sq(0, 2, 0), sq(0, 3, 0)},
		"Y ahead of X":                 {sq(0, 9, 0), sq(0, 0, 1)},
		"beside a great one":           {sq(0, 8, 0), sq(3, 0, 0)},
		"as many as there may be":      scattered(api.MaxSquares, 0, 0),
		"children of different levels": {sq(0, 5, 3), sq(1, 3, 0), sq(1, 3, 1), sq(2, 0, 0)},
	}
	for what, l := range good {
		if !places.ValidRegion(l) {
			t.Errorf("%s: not valid", what)
		}
	}
	for what, l := range badRegions() {
		if places.ValidRegion(l) {
			t.Errorf("%s: valid", what)
		}
	}
	for _, s := range badSquares() {
		if places.ValidRegion([]api.Square{s}) {
			t.Errorf("ValidRegion of %v: true", s)
		}
	}
}

// P1.1 (L6): a list is a region if and only if it is the region of what it covers.
func TestValidRegionByCells(t *testing.T) {
	r, valid := random(), 0
	for range 3000 {
		l := someSquares(r)
		if r.IntN(2) == 0 {
			slices.SortFunc(l, before)
			l = slices.Compact(l)
		}
		if r.IntN(3) == 0 {
			l = regionOf(cells(l))
		}
		want := slices.Equal(l, regionOf(cells(l)))
		if places.ValidRegion(l) != want {
			t.Fatalf("ValidRegion(%v): %v", l, !want)
		}
		if want {
			valid++
		}
	}
	if valid < 500 || valid > 2500 {
		t.Errorf("%d of 3000 lists are valid: this tests little", valid)
	}
}

// P1.1 (L7).
func TestNormal(t *testing.T) {
	var block []api.Square // all squares of level 0 of a square of level 6, from the last to the first
	for y := 127; y >= 64; y-- {
		for x := 63; x >= 0; x-- {
			block = append(block, sq(0, x, y))
		}
	}
	for _, c := range []struct {
		what    string
		l, want []api.Square
	}{
		{"nothing", nil, nil},
		{"the example", []api.Square{sq(0, 4, 2), sq(0, 5, 2), sq(0, 4, 3), sq(0, 5, 3), sq(0, 9, 9)}, sample()},
		{"one many times", slices.Repeat([]api.Square{sq(3, 1, 2)}, api.MaxSquares), []api.Square{sq(3, 1, 2)}},
		{"one in another", []api.Square{sq(0, 5, 3), sq(3, 0, 0), sq(1, 2, 1)}, []api.Square{sq(3, 0, 0)}},
		{"all in the whole map", append(cornerSquares(), sq(10, 0, 0)), []api.Square{sq(10, 0, 0)}},
		{"the children of the map", []api.Square{sq(9, 1, 1), sq(9, 0, 1), sq(9, 1, 0), sq(9, 0, 0)}, []api.Square{sq(10, 0, 0)}},
		{"a block", block, []api.Square{sq(6, 0, 1)}},
		{"a block but one", block[1:], regionOf(cells(block[1:]))},
		{"three children and the children of the fourth",
			[]api.Square{sq(1, 1, 0), sq(1, 0, 1), sq(1, 1, 1), sq(0, 0, 0), sq(0, 1, 0), sq(0, 0, 1), sq(0, 1, 1)}, []api.Square{sq(2, 0, 0)}},
		{"three children and a part of the fourth",
			[]api.Square{sq(1, 1, 0), sq(1, 0, 1), sq(1, 1, 1), sq(0, 0, 0), sq(0, 1, 0), sq(0, 0, 1)},
			[]api.Square{sq(0, 0, 0), sq(0, 1, 0), sq(0, 0, 1), sq(1, 1, 0), sq(1, 0, 1), sq(1, 1, 1)}},
		{"as many as there may be", scattered(api.MaxSquares, 0, 0), scattered(api.MaxSquares, 0, 0)},
	} {
		got, e := places.Normal(c.l)
		wantSquares(t, "Normal of "+c.what, got, e, c.want)
	}
}

func TestNormalErrors(t *testing.T) {
	for _, s := range badSquares() {
		l, e := places.Normal([]api.Square{sq(0, 0, 0), s, sq(0, 1, 1)})
		wantNone(t, "Normal of no square", l, e, api.ErrSquare)
	}
	l, e := places.Normal(make([]api.Square, api.MaxSquares+1))
	wantNone(t, "Normal of too many equal ones", l, e, api.ErrLimit)
	bad := slices.Repeat(badSquares()[:1], api.MaxSquares+1)
	l, e = places.Normal(bad)
	wantNone(t, "Normal of too many that are not valid", l, e, api.ErrLimit)
	l, e = places.Normal(bad[1:])
	wantNone(t, "Normal of many that are not valid", l, e, api.ErrSquare)
}

// P1.3: what Normal returns is a region that covers the same; it does not depend on the order; a region is its own Normal.
func TestNormalByCells(t *testing.T) {
	r := random()
	for range 1000 {
		l := someSquares(r)
		got, e := places.Normal(l)
		wantSquares(t, "Normal", got, e, regionOf(cells(l)))
		if !places.ValidRegion(got) {
			t.Fatalf("Normal(%v) is no region", l)
		}
		again, e := places.Normal(got)
		wantSquares(t, "Normal of Normal", again, e, got)
		r.Shuffle(len(l), func(i, j int) { l[i], l[j] = l[j], l[i] })
		shuffled, e := places.Normal(l)
		wantSquares(t, "Normal in another order", shuffled, e, got)
	}
}

// P1.3: two regions cover the same if and only if they are equal. Many sets of few cells are gone through.
func TestRegionsAreUnique(t *testing.T) {
	seen := map[string]int{}
	for bits := range 1 << 12 {
		var l []api.Square
		for i := range 12 {
			if bits>>i&1 == 1 {
				l = append(l, sq(0, i%4, i/4))
			}
		}
		text := ""
		for _, s := range must(t)(places.Normal(l)) {
			part, _ := places.PrintSquare(s)
			text += part + ";"
		}
		if old, ok := seen[text]; ok {
			t.Fatalf("the sets %b and %b have one region, %s", old, bits, text)
		}
		seen[text] = bits
	}
}

// P1.1 (L8 to L10): the results are the regions of what they must cover.
func TestAlgebraByCells(t *testing.T) {
	r := random()
	for range 400 {
		a, b := someRegion(r), someRegion(r)
		inA, inB := cells(a), cells(b)
		for what, o := range algebra() {
			want := cells(append(slices.Clone(a), b...))
			maps.DeleteFunc(want, func(c cell, _ bool) bool { return !o.cover(inA[c], inB[c]) })
			got, e := o.of(a, b)
			wantSquares(t, what, got, e, regionOf(want))
		}
	}
}

// P1.1 (L8 to L10): the examples, and cases at the edges.
func TestAlgebraCases(t *testing.T) {
	all := []api.Square{sq(10, 0, 0)}
	var ring []api.Square // the whole map without {0, 0, 0}
	for level := range api.MaxLevel {
		ring = append(ring, sq(level, 1, 0), sq(level, 0, 1), sq(level, 1, 1))
	}
	for _, c := range []struct {
		what       string
		of         func(a, b []api.Square) ([]api.Square, api.Errno)
		a, b, want []api.Square
	}{
		{"Minus of the example", places.Minus, []api.Square{sq(1, 2, 1)}, []api.Square{sq(0, 5, 3)}, []api.Square{sq(0, 4, 2), sq(0, 5, 2), sq(0, 4, 3)}},
		{"Minus of a small one", places.Minus, all, []api.Square{sq(0, 0, 0)}, ring},
		{"Minus of most", places.Minus, all, ring, []api.Square{sq(0, 0, 0)}},
		{"Minus of a greater one", places.Minus, sample(), []api.Square{sq(2, 1, 0)}, []api.Square{sq(0, 9, 9)}},
		{"Minus of all", places.Minus, sample(), all, nil},
		{"Minus of nothing", places.Minus, sample(), nil, sample()},
		{"Minus of itself", places.Minus, sample(), sample(), nil},
		{"Minus of another part", places.Minus, sample(), []api.Square{sq(5, 9, 9)}, sample()},
		{"Minus of many", places.Minus, scattered(api.MaxSquares, 0, 0), scattered(api.MaxSquares, 0, 0)[1:], []api.Square{sq(0, 0, 0)}},
		{"Union with all", places.Union, all, sample(), all},
		{"Union of what makes all", places.Union, ring, []api.Square{sq(0, 0, 0)}, all},
		{"Union of nothing", places.Union, nil, nil, nil},
		{"Union of the same", places.Union, scattered(api.MaxSquares, 0, 0), scattered(api.MaxSquares, 0, 0), scattered(api.MaxSquares, 0, 0)},
		{"Union within one", places.Union, scattered(api.MaxSquares, 0, 0), all, all},
		{"Intersect with all", places.Intersect, all, sample(), sample()},
		{"Intersect with nothing", places.Intersect, all, nil, nil},
		{"Intersect of parts that are apart", places.Intersect, ring, []api.Square{sq(0, 0, 0)}, nil},
		{"Intersect both ways", places.Intersect, []api.Square{sq(0, 40, 0), sq(2, 0, 0)}, []api.Square{sq(1, 1, 1), sq(3, 5, 0)}, []api.Square{sq(0, 40, 0), sq(1, 1, 1)}},
	} {
		got, e := c.of(c.a, c.b)
		wantSquares(t, c.what, got, e, c.want)
	}
}

// P1.1 (L8 to L10): errors.
func TestAlgebraErrors(t *testing.T) {
	for what, o := range algebra() {
		for which, bad := range badRegions() {
			l, e := o.of(bad, sample())
			wantNone(t, what+" with a first region that is none: "+which, l, e, api.ErrRegion)
			l, e = o.of(sample(), bad)
			wantNone(t, what+" with a second region that is none: "+which, l, e, api.ErrRegion)
			l, e = o.of(bad, bad)
			wantNone(t, what+" without regions: "+which, l, e, api.ErrRegion)
		}
	}
}

// P1.1 (L8 to L10): results of MaxSquares squares are returned, and those of one more give ErrLimit.
func TestAlgebraLimits(t *testing.T) {
	const half = api.MaxSquares / 2
	for more, want := range []api.Errno{api.OK, api.ErrLimit} {
		l, e := places.Union(scattered(half, 0, 0), scattered(half+more, 512, 0))
		wantSize(t, "Union", l, e, want)

		// The small squares of each region lie in a great one of the other region.
		a := append(scattered(half, 0, 0), sq(9, 1, 1))
		b := append(scattered(half+more, 512, 512), sq(9, 0, 0))
		l, e = places.Intersect(a, b)
		wantSize(t, "Intersect", l, e, want)
		l, e = places.Intersect(b, a)
		wantSize(t, "Intersect the other way round", l, e, want)

		// Of each square of level 1 three children are left.
		var taken, fours []api.Square
		for _, s := range scattered(api.MaxSquares/3, 0, 0) {
			fours = append(fours, sq(1, s.X/2*2, s.Y/2*2))
			taken = append(taken, sq(0, s.X/2*4, s.Y/2*4))
		}
		l, e = places.Minus(append(scattered(1+more, 0, 900), fours...), taken)
		wantSize(t, "Minus", l, e, want)
	}
	l, e := places.Minus([]api.Square{sq(10, 0, 0)}, scattered(api.MaxSquares, 0, 0))
	wantNone(t, "Minus with many more", l, e, api.ErrLimit)
}

// wantSize checks that there are MaxSquares squares, or an error and none.
func wantSize(t *testing.T, what string, got []api.Square, e, want api.Errno) {
	t.Helper()
	if want != api.OK {
		wantNone(t, what, got, e, want)
	} else if e != api.OK || len(got) != api.MaxSquares {
		t.Errorf("%s: %d squares, error %d", what, len(got), e)
	}
}

// P1.4: the laws of Union, Intersect and Minus.
func TestAlgebraLaws(t *testing.T) {
	r, ok := random(), must(t)
	union := func(a, b []api.Square) []api.Square { return ok(places.Union(a, b)) }
	cut := func(a, b []api.Square) []api.Square { return ok(places.Intersect(a, b)) }
	minus := func(a, b []api.Square) []api.Square { return ok(places.Minus(a, b)) }
	for range 300 {
		a, b, c := someRegion(r), someRegion(r), someRegion(r)
		for law, sides := range map[string][2][]api.Square{
			"Union is commutative":                   {union(a, b), union(b, a)},
			"Intersect is commutative":               {cut(a, b), cut(b, a)},
			"Union is associative":                   {union(union(a, b), c), union(a, union(b, c))},
			"Intersect is associative":               {cut(cut(a, b), c), cut(a, cut(b, c))},
			"Union is idempotent":                    {union(a, a), a},
			"Intersect is idempotent":                {cut(a, a), a},
			"Union is distributive over Intersect":   {union(a, cut(b, c)), cut(union(a, b), union(a, c))},
			"Intersect is distributive over Union":   {cut(a, union(b, c)), union(cut(a, b), cut(a, c))},
			"Minus and Intersect have no overlap":    {cut(minus(a, b), cut(a, b)), nil},
			"Minus and Intersect together are all":   {union(minus(a, b), cut(a, b)), a},
			"Minus leaves nothing of what was taken": {cut(minus(a, b), b), nil},
		} {
			if !slices.Equal(sides[0], sides[1]) {
				t.Fatalf("%s: not with %v, %v, %v: %v and %v", law, a, b, c, sides[0], sides[1])
			}
		}
	}
}

// P1.1 (L11) and P1.5.
func TestArea(t *testing.T) {
	for _, c := range []struct {
		l    []api.Square
		want int
	}{
		{nil, 0}, {sample(), 5}, {[]api.Square{sq(10, 0, 0)}, 1 << 20}, {[]api.Square{sq(5, 1, 1), sq(9, 1, 1)}, 1<<10 + 1<<18},
		{scattered(api.MaxSquares, 0, 0), api.MaxSquares},
	} {
		if n, e := places.Area(c.l); e != api.OK || n != c.want {
			t.Errorf("Area(%v): %d, error %d; want %d", short(c.l), n, e, c.want)
		}
	}
	for what, bad := range badRegions() {
		if n, e := places.Area(bad); e != api.ErrRegion || n != 0 {
			t.Errorf("Area, %s: %d, error %d", what, n, e)
		}
	}
	r, ok := random(), must(t)
	area := func(l []api.Square) int {
		n, e := places.Area(l)
		if e != api.OK || n != len(cells(l)) {
			t.Fatalf("Area(%v): %d, error %d", l, n, e)
		}
		return n
	}
	for range 300 {
		a, b := someRegion(r), someRegion(r)
		cut := area(ok(places.Intersect(a, b)))
		if area(ok(places.Union(a, b)))+cut != area(a)+area(b) || area(ok(places.Minus(a, b))) != area(a)-cut {
			t.Fatalf("the areas with %v and %v do not add up", a, b)
		}
	}
}

// P1.1 (L12, L13): the examples, and cases at the edges.
func TestHasAndMeets(t *testing.T) {
	all := []api.Square{sq(10, 0, 0)}
	for _, c := range []struct {
		l          []api.Square
		s          api.Square
		has, meets bool
	}{
		{sample(), sq(1, 4, 4), false, true},
		{sample(), sq(1, 2, 1), true, true},
		{sample(), sq(0, 4, 3), true, true},
		{sample(), sq(0, 9, 9), true, true},
		{sample(), sq(0, 8, 9), false, false},
		{sample(), sq(1, 3, 1), false, false},
		{sample(), sq(10, 0, 0), false, true},
		{nil, sq(10, 0, 0), false, false},
		{all, sq(10, 0, 0), true, true},
		{all, sq(0, 1023, 1023), true, true},
		{[]api.Square{sq(0, 0, 0), sq(0, 1, 0), sq(0, 0, 1)}, sq(1, 0, 0), false, true},
	} {
		if has, e := places.Has(c.l, c.s); e != api.OK || has != c.has {
			t.Errorf("Has(%v, %v): %v, error %d", c.l, c.s, has, e)
		}
		if meets, e := places.Meets(c.l, c.s); e != api.OK || meets != c.meets {
			t.Errorf("Meets(%v, %v): %v, error %d", c.l, c.s, meets, e)
		}
	}
}

// P1.1 (L12, L13): errors; ErrRegion comes ahead of ErrSquare.
func TestHasAndMeetsErrors(t *testing.T) {
	for what, ask := range map[string]func([]api.Square, api.Square) (bool, api.Errno){"Has": places.Has, "Meets": places.Meets} {
		for which, bad := range badRegions() {
			for _, s := range []api.Square{sq(0, 9, 9), sq(0, -1, 0)} {
				if is, e := ask(bad, s); e != api.ErrRegion || is {
					t.Errorf("%s, %s: %v, error %d", what, which, is, e)
				}
			}
		}
		for _, s := range badSquares() {
			if is, e := ask([]api.Square{sq(10, 0, 0)}, s); e != api.ErrSquare || is {
				t.Errorf("%s of %v: %v, error %d", what, s, is, e)
			}
		}
	}
}

// P1.1 (L12, L13) and P1.6.
func TestCovering(t *testing.T) {
	r := random()
	for range 60 {
		l := someRegion(r)
		set := cells(l)
		has := func(s api.Square) bool { is, e := places.Has(l, s); return is && e == api.OK }
		meets := func(s api.Square) bool { is, e := places.Meets(l, s); return is && e == api.OK }
		for level := range 6 {
			for y := range 32 >> level {
				for x := range 32 >> level {
					s := sq(level, x, y)
					n := len(both(cells([]api.Square{s}), set))
					if has(s) != (n == 1<<(2*level)) || meets(s) != (n > 0) || level == 0 && has(s) != meets(s) {
						t.Fatalf("%v has %d of the cells of %v; Has: %v; Meets: %v", l, n, s, has(s), meets(s))
					}
					if level == 0 {
						continue
					}
					four, _ := places.Children(s)
					missed := func(c api.Square) bool { return !has(c) }
					if has(s) == slices.ContainsFunc(four, missed) || meets(s) != slices.ContainsFunc(four, meets) {
						t.Fatalf("%v and the children of %v", l, s)
					}
				}
			}
		}
	}
}

// P1.1 (L14): the examples, and cases at the edges.
func TestCoarse(t *testing.T) {
	row := []api.Square{sq(0, 1020, 1), sq(0, 1021, 1), sq(0, 1023, 1), sq(0, 2, 2)}
	for _, c := range []struct {
		l     []api.Square
		level int
		want  []api.Square
	}{
		{nil, 0, nil},
		{sample(), 0, []api.Square{sq(0, 4, 2), sq(0, 5, 2), sq(0, 4, 3), sq(0, 5, 3), sq(0, 9, 9)}},
		{sample(), 1, []api.Square{sq(1, 2, 1), sq(1, 4, 4)}},
		{sample(), 2, []api.Square{sq(2, 1, 0), sq(2, 2, 2)}},
		{sample(), 10, []api.Square{sq(10, 0, 0)}},
		{row, 0, row},
		{row, 1, []api.Square{sq(1, 510, 0), sq(1, 511, 0), sq(1, 1, 1)}},
		{row, 2, []api.Square{sq(2, 0, 0), sq(2, 255, 0)}},
		{[]api.Square{sq(10, 0, 0)}, 9, []api.Square{sq(9, 0, 0), sq(9, 1, 0), sq(9, 0, 1), sq(9, 1, 1)}},
		{scattered(api.MaxSquares, 0, 0), 0, scattered(api.MaxSquares, 0, 0)},
		{scattered(api.MaxSquares, 0, 0), 9, []api.Square{sq(9, 0, 0)}},
	} {
		got, e := places.Coarse(c.l, c.level)
		wantSquares(t, "Coarse", got, e, c.want)
	}
}

func TestCoarseErrors(t *testing.T) {
	for what, bad := range badRegions() {
		for _, level := range []int{0, -1, 11} {
			l, e := places.Coarse(bad, level)
			wantNone(t, "Coarse, "+what, l, e, api.ErrRegion)
		}
	}
	all := []api.Square{sq(10, 0, 0)}
	for _, level := range []int{-1, api.MaxLevel + 1, 1 << 40, -1 << 40} {
		for _, l := range [][]api.Square{nil, all} {
			got, e := places.Coarse(l, level)
			wantNone(t, "Coarse to no level", got, e, api.ErrArg)
		}
	}
	got, e := places.Coarse(all, 4)
	wantSize(t, "Coarse", got, e, api.OK)
	got, e = places.Coarse(all, 3)
	wantNone(t, "Coarse of four times as many", got, e, api.ErrLimit)
	got, e = places.Coarse(all, 0)
	wantNone(t, "Coarse of all", got, e, api.ErrLimit)
	got, e = places.Coarse([]api.Square{sq(6, 3, 3)}, 0)
	wantSize(t, "Coarse", got, e, api.OK)
	got, e = places.Coarse([]api.Square{sq(0, 0, 0), sq(6, 3, 3)}, 0)
	wantNone(t, "Coarse of one more, ahead", got, e, api.ErrLimit)
	got, e = places.Coarse([]api.Square{sq(5, 20, 20), sq(6, 3, 3), sq(7, 6, 6)}, 1)
	wantNone(t, "Coarse of some more", got, e, api.ErrLimit)
}

// P1.6: Coarse has just the squares of the level that the region meets, in order; the region lies in the region of these.
func TestCoarseByCells(t *testing.T) {
	r, ok := random(), must(t)
	for range 300 {
		l := someRegion(r)
		for level := range api.MaxLevel + 1 {
			var want []api.Square
			for c := range cells(l) {
				want = append(want, sq(level, c.x>>level, c.y>>level))
			}
			slices.SortFunc(want, before)
			want = slices.Compact(want)
			got, e := places.Coarse(l, level)
			wantSquares(t, "Coarse", got, e, want)
			if left := ok(places.Minus(l, ok(places.Normal(got)))); len(left) > 0 {
				t.Fatalf("%v is not in its squares of level %d: %v", l, level, left)
			}
		}
	}
}

// R7: arguments are not changed, and results are new memory.
func TestRegionsAreNotShared(t *testing.T) {
	calls := map[string]func(a []api.Square) ([]api.Square, api.Errno){
		"Normal":              places.Normal,
		"Union":               func(a []api.Square) ([]api.Square, api.Errno) { return places.Union(a, nil) },
		"Union, second":       func(a []api.Square) ([]api.Square, api.Errno) { return places.Union(nil, a) },
		"Intersect":           func(a []api.Square) ([]api.Square, api.Errno) { return places.Intersect(a, a) },
		"Minus":               func(a []api.Square) ([]api.Square, api.Errno) { return places.Minus(a, nil) },
		"Coarse":              func(a []api.Square) ([]api.Square, api.Errno) { return places.Coarse(a, 0) },
		"Minus with a square": func(a []api.Square) ([]api.Square, api.Errno) { return places.Minus(a, []api.Square{sq(0, 9, 9)}) },
	}
	for what, call := range calls {
		arg := make([]api.Square, 3, 10)
		copy(arg, []api.Square{sq(0, 9, 9), sq(0, 4, 10), sq(0, 5, 10)})
		old, behind := slices.Clone(arg), slices.Clone(arg[:10])
		got, e := call(arg)
		if e != api.OK || !slices.Equal(arg[:10], behind) {
			t.Errorf("%s: error %d, argument %v", what, e, arg[:10])
		}
		for i := range got {
			got[i] = sq(0, 77, 77)
		}
		if !slices.Equal(arg, old) {
			t.Errorf("%s: its result is a part of its argument", what)
		}
	}
	unsorted := []api.Square{sq(1, 0, 0), sq(0, 9, 9), sq(0, 1, 1)}
	old := slices.Clone(unsorted)
	if _, e := places.Normal(unsorted); e != api.OK || !slices.Equal(unsorted, old) {
		t.Errorf("Normal: error %d, argument %v", e, unsorted)
	}
}
