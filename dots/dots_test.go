package dots_test

import (
	"math/rand/v2"
	"slices"
	"testing"

	"noctuary/api"
	"noctuary/dots"
)

func badLicences() []api.Licence {
	return []api.Licence{
		{}, {Name: 0, Least: 1}, {Name: -1, Least: 1}, {Name: api.MaxID + 1, Least: 1}, {Name: huge, Least: 1},
		licence(-1, 1), licence(api.MaxLevel+1, 1), licence(huge, 1), licence(-huge-1, 1),
		licence(0, 0), licence(0, -1), licence(0, 1<<20+1), licence(0, huge), licence(0, -huge-1),
	}
}

// P8.1 (D1).
func TestCheckLicences(t *testing.T) {
	many := func(n int) []api.Licence {
		var out []api.Licence
		for i := range n {
			out = append(out, api.Licence{Name: api.MaxID - n + 1 + i, Level: i % 11, Least: 1 + i})
		}
		return out
	}
	good := [][]api.Licence{
		nil, {}, {licence(0, 1)}, {licence(api.MaxLevel, 1<<20)},
		{{Name: 1, Least: 1}, {Name: 2, Least: 1}, {Name: api.MaxID, Level: 3, Least: 7}}, many(api.MaxNames),
	}
	for _, l := range good {
		if e := dots.CheckLicences(l); e != api.OK {
			t.Errorf("CheckLicences(%s): error %d", short(l), e)
		}
	}
	bad := [][]api.Licence{
		{{Name: 2, Least: 1}, {Name: 1, Least: 1}}, {{Name: 2, Least: 1}, {Name: 2, Level: 1, Least: 1}}, many(api.MaxNames + 1),
	}
	for _, x := range badLicences() {
		bad = append(bad, []api.Licence{x}, []api.Licence{{Name: 1, Least: 1}, x}, []api.Licence{x, {Name: api.MaxID, Least: 1}})
	}
	for _, l := range bad {
		if e := dots.CheckLicences(l); e != api.ErrLicence {
			t.Errorf("CheckLicences(%s): error %d", short(l), e)
		}
		x, e := dots.LicenceOf(l, 0)
		wantError(t, "LicenceOf", x, e, api.ErrLicence)
	}
}

// P8.1 (D2).
func TestLicenceOf(t *testing.T) {
	l := []api.Licence{{Name: 1, Level: 2, Least: 3}, licence(1, 3), {Name: api.MaxID, Level: 10, Least: 9}}
	for _, x := range l {
		got, e := dots.LicenceOf(l, x.Name)
		want(t, "LicenceOf", got, e, x)
	}
	for _, n := range []int{2, 4, 6, api.MaxID - 1} {
		got, e := dots.LicenceOf(l, n)
		want(t, "LicenceOf a name without one", got, e, api.Licence{Name: n, Level: 0, Least: 1})
	}
	got, e := dots.LicenceOf(nil, 1)
	want(t, "LicenceOf no licences", got, e, api.Licence{Name: 1, Least: 1})
	for _, n := range []int{0, -1, api.MaxID + 1, huge, -huge - 1} {
		got, e := dots.LicenceOf(l, n)
		wantError(t, "LicenceOf no name", got, e, api.ErrArg)
	}
}

// badMaps are maps that are not valid for the county {2, 0, 0}.
func badMaps() map[string]api.DotMap {
	one := []api.Square{sq(0, 0, 0)}
	many := slices.Concat(grid(65, 2, 0, 0)[:api.MaxSquares+1])
	named := func(n int) api.DotMap { return api.DotMap{Name: n, Dots: one} }
	out := map[string]api.DotMap{
		"Name 0": named(0), "Name -1": named(-1), "a great Name": named(api.MaxID + 1), "the greatest Name": named(huge),
		"a dot is not valid":            dotMap([]api.Square{sq(0, 0, 1024)}, nil),
		"a dot has a low level":         dotMap([]api.Square{sq(-1, 0, 0)}, nil),
		"a dot has a high level":        dotMap([]api.Square{sq(huge, 0, 0)}, nil),
		"dots by Level not in order":    dotMap([]api.Square{sq(1, 0, 0), sq(0, 2, 0)}, nil),
		"dots by Y not in order":        dotMap([]api.Square{sq(0, 0, 1), sq(0, 1, 0)}, nil),
		"dots by X not in order":        dotMap([]api.Square{sq(0, 1, 0), sq(0, 0, 0)}, nil),
		"a dot twice":                   dotMap([]api.Square{sq(0, 1, 0), sq(0, 1, 0)}, nil),
		"a dot in another one":          dotMap([]api.Square{sq(0, 1, 1), sq(1, 0, 0)}, nil),
		"a dot far down in another one": dotMap([]api.Square{sq(0, 1, 1), sq(10, 0, 0)}, nil),
		"a dot in one before the last":  dotMap([]api.Square{sq(0, 1, 1), sq(1, 0, 0), sq(1, 1, 0)}, nil),
		"a dot out of the county":       dotMap([]api.Square{sq(0, 0, 0), sq(0, 4, 0)}, nil),
		"a great dot out of the county": dotMap([]api.Square{sq(0, 0, 0), sq(2, 1, 1)}, nil),
		"Region not in order":           dotMap(one, []api.Square{sq(0, 0, 1), sq(0, 1, 0)}),
		"Region has a square twice":     dotMap(one, []api.Square{sq(0, 1, 0), sq(0, 1, 0)}),
		"Region has all children":       dotMap(one, smallOf([]api.Square{sq(1, 0, 0)})),
		"Region has one in another":     dotMap(one, []api.Square{sq(0, 0, 0), sq(1, 0, 0)}),
		"Region is not valid":           dotMap(one, []api.Square{sq(0, -1, 0)}),
		"Region has too many":           dotMap(one, many),
	}
	return out
}

// P8.1 (D3).
func TestCheck(t *testing.T) {
	county := []api.Square{sq(2, 0, 0)}
	for what, m := range map[string]api.DotMap{
		"no dots, no Region":       dotMap(nil, nil),
		"dots of all levels":       dotMap([]api.Square{sq(0, 0, 0), sq(0, 3, 1), sq(1, 0, 1), sq(1, 1, 1)}, county),
		"all children":             dotMap(smallOf([]api.Square{sq(1, 0, 0)}), whole()),
		"a dot around the county":  dotMap([]api.Square{sq(5, 0, 0)}, []api.Square{sq(0, 99, 99)}),
		"the greatest dot":         dotMap(whole(), county),
		"the least Name":           {Name: 1},
		"the greatest Name":        {Name: api.MaxID},
		"Region out of the county": dotMap(nil, []api.Square{sq(0, 1023, 1023), sq(9, 0, 0)}),
	} {
		if e := dots.Check(county, m); e != api.OK {
			t.Errorf("Check, %s: error %d", what, e)
		}
	}
	for what, m := range badMaps() {
		if e := dots.Check(county, m); e != api.ErrMap {
			t.Errorf("Check, %s: error %d", what, e)
		}
	}
	if e := dots.Check(nil, dotMap([]api.Square{sq(0, 0, 0)}, nil)); e != api.ErrMap {
		t.Errorf("Check of a dot where nothing is in the county: error %d", e)
	}
	for _, bad := range badCounties() {
		if e := dots.Check(bad, dotMap(nil, nil)); e != api.ErrRegion {
			t.Errorf("Check in the county %s: error %d", short(bad), e)
		}
	}
}

// badCounties are no regions.
func badCounties() [][]api.Square {
	return [][]api.Square{
		{sq(0, 0, 1), sq(0, 1, 0)}, {sq(0, 1, 0), sq(0, 1, 0)}, {sq(0, 1, 1), sq(1, 0, 0)}, {sq(0, 1024, 0)}, {sq(-1, 0, 0)}, {sq(11, 0, 0)},
		smallOf([]api.Square{sq(1, 5, 5)}), grid(65, 2, 0, 0)[:api.MaxSquares+1],
	}
}

// P8.1 (D3): the most dots, and one more.
func TestCheckMostDots(t *testing.T) {
	l := sorted(grid(65, 1, 100, 100)...)
	if e := dots.Check(whole(), dotMap(l[:api.MaxSquares], grid(64, 2, 0, 0))); e != api.OK {
		t.Errorf("Check of the most dots: error %d", e)
	}
	if e := dots.Check(whole(), dotMap(l[:api.MaxSquares+1], nil)); e != api.ErrMap {
		t.Errorf("Check of too many dots: error %d", e)
	}
}

// blurredOne is BlurOne by the chapter's words.
func blurredOne(small []api.Square, x api.Licence, s api.Square) (api.Square, api.Errno) {
	for level := x.Level; level <= api.MaxLevel; level++ {
		dot := up(s, level)
		if len(those(small, func(q api.Square) bool { return within(q, dot) })) >= x.Least {
			return dot, api.OK
		}
	}
	return api.Square{}, api.ErrNone
}

// blurred is Blur by the chapter's words.
func blurred(small []api.Square, x api.Licence, l []api.Square) ([]api.Square, api.Errno) {
	var out []api.Square
	for _, s := range l {
		dot, e := blurredOne(small, x, s)
		if e != api.OK {
			return nil, e
		}
		out = append(out, dot)
	}
	return outerOf(out), api.OK
}

func someLicence(r *rand.Rand) api.Licence {
	return licence(pick(r, 0, 0, 0, 1, 1, 2, 2, 3, 4, 10), pick(r, 1, 1, 1, 2, 2, 3, 4, 5, 8, 20, 40))
}

// P8.1 (D4, D5) and P8.6.
func TestBlur(t *testing.T) {
	errors := map[api.Errno]int{}
	eachScene(t, 1500, 40, func(r *rand.Rand, c scene) {
		x := someLicence(r)
		for _, s := range c.small {
			dot, e := dots.BlurOne(c.county, x, s)
			expected, error := blurredOne(c.small, x, s)
			wantBoth(t, "BlurOne", dot, e, expected, error)
			errors[e]++
		}
		f := someOf(r, c.small, 12)
		f = append(f, someOf(r, f, 3)...) // some of them twice
		l, e := dots.Blur(c.county, x, f)
		expected, error := blurred(c.small, x, f)
		wantBoth(t, "Blur", l, e, expected, error)
		for i, dot := range l {
			if !hasOf(dot, f) || isIn(dot, slices.Delete(slices.Clone(l), i, i+1)) || dot.Level < x.Level {
				t.Errorf("Blur of %v has the dot %v", f, dot)
			}
		}
		for _, s := range f {
			if e == api.OK && !isIn(s, l) {
				t.Errorf("Blur of %v has no dot around %v", f, s)
			}
		}
		lower := licence(r.IntN(x.Level+1), 1+r.IntN(x.Least))
		finer, low := dots.Blur(c.county, lower, f)
		for _, dot := range finer {
			if e == api.OK && (low != api.OK || !isIn(dot, l)) {
				t.Errorf("the licence %v gives %v, error %d, the licence %v %v", lower, finer, low, x, l)
			}
		}
	})
	if errors[api.OK] < 1000 || errors[api.ErrNone] < 1000 {
		t.Errorf("BlurOne returned these errors: %v", errors)
	}
}

// P8.1 (D4, D5): the examples, and the ends of levels and counts.
func TestBlurExamples(t *testing.T) {
	county, x := []api.Square{sq(2, 0, 0)}, licence(1, 3)
	dot, e := dots.BlurOne(county, x, sq(0, 0, 0))
	want(t, "BlurOne", dot, e, sq(1, 0, 0))
	l, e := dots.Blur(county, x, []api.Square{sq(0, 0, 0), sq(0, 1, 1), sq(0, 3, 0)})
	want(t, "Blur", l, e, []api.Square{sq(1, 0, 0), sq(1, 1, 0)})
	dot, e = dots.BlurOne([]api.Square{sq(0, 0, 0), sq(1, 1, 0)}, x, sq(0, 0, 0))
	want(t, "BlurOne in a small county", dot, e, sq(2, 0, 0))
	l, e = dots.Blur([]api.Square{sq(0, 0, 0), sq(1, 1, 0)}, x, []api.Square{sq(0, 3, 1), sq(0, 0, 0)})
	want(t, "Blur with a dot in another one", l, e, []api.Square{sq(2, 0, 0)})
	l, e = dots.Blur(nil, x, nil)
	want(t, "Blur of none", l, e, nil)
	dot, e = dots.BlurOne(whole(), licence(0, 1<<20), sq(0, 1023, 1023))
	want(t, "BlurOne of all", dot, e, whole()[0])
	dot, e = dots.BlurOne([]api.Square{sq(9, 0, 0), sq(9, 1, 0), sq(9, 0, 1)}, licence(0, 1<<20), sq(0, 0, 0))
	wantError(t, "BlurOne of more than all", dot, e, api.ErrNone)
	dot, e = dots.BlurOne(county, licence(0, 1), sq(0, 3, 3))
	want(t, "BlurOne of the least licence", dot, e, sq(0, 3, 3))
	dot, e = dots.BlurOne(county, licence(api.MaxLevel, 16), sq(0, 3, 3))
	want(t, "BlurOne of the greatest level", dot, e, whole()[0])
	dot, e = dots.BlurOne(county, licence(api.MaxLevel, 17), sq(0, 3, 3))
	wantError(t, "BlurOne of too many", dot, e, api.ErrNone)
	l, e = dots.Blur(county, licence(0, 17), []api.Square{sq(0, 3, 3)})
	wantError(t, "Blur of too many", l, e, api.ErrNone)
	l, e = dots.Blur(county, licence(0, 17), nil)
	want(t, "Blur of none with too many", l, e, nil)
}

// P8.1 (D4): squares that are no small squares of the county have no dot.
func TestBlurOneOfOthers(t *testing.T) {
	county := []api.Square{sq(2, 0, 0)}
	for _, s := range []api.Square{sq(0, 4, 0), sq(0, 1023, 1023), sq(1, 0, 0), sq(2, 0, 0), sq(10, 0, 0)} {
		dot, e := dots.BlurOne(county, licence(1, 1), s)
		wantError(t, "BlurOne of "+text(s), dot, e, api.ErrNone)
	}
	for _, s := range badSquares() {
		dot, e := dots.BlurOne(county, licence(1, 1), s)
		wantError(t, "BlurOne of "+text(s), dot, e, api.ErrSquare)
	}
}

func badSquares() []api.Square {
	return []api.Square{
		sq(-1, 0, 0), sq(11, 0, 0), sq(huge, 0, 0), sq(-huge-1, 0, 0), sq(0, -1, 0), sq(0, 0, -1), sq(0, 1024, 0), sq(0, 0, 1024),
		sq(0, huge, 0), sq(0, 0, -huge-1), sq(5, 32, 0), sq(10, 0, 1),
	}
}

// P8.1 (D6).
func TestOuter(t *testing.T) {
	r := random()
	for range 1500 {
		l := append(someSquares(r, sq(3, 63, 64), 12), someSquares(r, sq(3, 0, 0), 12)...)
		if r.IntN(3) > 0 {
			l = those(l, func(s api.Square) bool { return s.Level < 3 })
		}
		l = append(l, someOf(r, l, 3)...)
		got, e := dots.Outer(l)
		want(t, "Outer of "+text(l), got, e, outerOf(l))
	}
	got, e := dots.Outer(nil)
	want(t, "Outer of none", got, e, nil)
	l := smallOf([]api.Square{sq(6, 3, 5)})
	got, e = dots.Outer(l)
	want(t, "Outer of the most", got, e, l)
	got, e = dots.Outer(append(l, l[0]))
	wantError(t, "Outer of too many", got, e, api.ErrLimit)
	for _, s := range badSquares() {
		got, e := dots.Outer([]api.Square{sq(0, 1, 1), s})
		wantError(t, "Outer of "+text(s), got, e, api.ErrSquare)
		got, e = dots.Outer(slices.Concat(l, l, []api.Square{s}))
		wantError(t, "Outer of too many, and "+text(s), got, e, api.ErrSquare)
	}
}
