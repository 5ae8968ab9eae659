package dots_test

import (
	"math/rand/v2"
	"slices"
	"testing"

	"noctuary/api"
	"noctuary/dots"
	"noctuary/places"
)

// isSafe is Safe of small squares of the county by the chapter's words.
func isSafe(x api.Licence, part []api.Square) bool {
	return len(part) > 0 && frameOf(part).Level >= x.Level && len(part) >= x.Least
}

// P8.1 (D14).
func TestSafe(t *testing.T) {
	count := map[bool]int{}
	eachScene(t, 2500, 40, func(r *rand.Rand, c scene) {
		x := someLicence(r)
		home := up(pick(r, append(c.small, sq(0, 0, 0))...), 3)
		part := regionOf(someSquares(r, home, 6))
		inside := those(c.small, func(s api.Square) bool { return isIn(s, part) })
		is, e := dots.Safe(c.county, x, part)
		want(t, "Safe of "+text(part)+" by "+text(x), is, e, isSafe(x, inside))
		count[is]++
	})
	if count[true] < 300 || count[false] < 300 {
		t.Errorf("Safe: %v", count)
	}
}

// P8.1 (D14): each of what a licence asks for, at its end.
func TestSafeEnds(t *testing.T) {
	county := []api.Square{sq(0, 9, 9), sq(2, 0, 0)}
	for _, x := range []struct {
		x    api.Licence
		part []api.Square
		want bool
	}{
		{licence(0, 1), nil, false},
		{licence(0, 1), []api.Square{sq(0, 1, 1)}, true},
		{licence(0, 1), []api.Square{sq(0, 8, 8)}, false},
		{licence(0, 2), []api.Square{sq(0, 1, 1)}, false},
		{licence(0, 2), []api.Square{sq(0, 1, 1), sq(0, 8, 8)}, false},
		{licence(1, 2), []api.Square{sq(0, 0, 1), sq(0, 1, 1)}, true},
		{licence(2, 2), []api.Square{sq(0, 0, 1), sq(0, 1, 1)}, false},
		{licence(2, 2), []api.Square{sq(0, 1, 1), sq(0, 2, 1)}, true},
		{licence(2, 16), []api.Square{sq(2, 0, 0)}, true},
		{licence(2, 16), []api.Square{sq(3, 0, 0)}, true},
		{licence(3, 16), []api.Square{sq(3, 0, 0)}, false},
		{licence(4, 17), whole(), true},
		{licence(5, 17), whole(), false},
		{licence(4, 18), whole(), false},
		{licence(4, 2), []api.Square{sq(0, 0, 0), sq(0, 9, 9)}, true},
	} {
		is, e := dots.Safe(county, x.x, x.part)
		want(t, "Safe of "+text(x.part)+" by "+text(x.x), is, e, x.want)
	}
	is, e := dots.Safe(whole(), licence(api.MaxLevel, 1<<20), whole())
	want(t, "Safe of all", is, e, true)
	is, e = dots.Safe(nil, licence(0, 1), whole())
	want(t, "Safe of no county", is, e, false)
	is, e = dots.Safe(fine(), licence(0, 1), nearlyFine())
	want(t, "Safe where county and part together need too many squares", is, e, true)
	for _, part := range badCounties() {
		is, e := dots.Safe(county, licence(0, 1), part)
		wantError(t, "Safe of no region", is, e, api.ErrRegion)
		is, e = dots.Safe(county, api.Licence{}, part)
		wantError(t, "Safe of no region by no licence", is, e, api.ErrRegion)
	}
}

// fine is a region of as many squares as there may be: one great square, and small ones in another quarter.
func fine() []api.Square {
	return sorted(append(grid(64, 2, 512, 0)[1:], sq(7, 0, 0))...)
}

// nearlyFine is a region that has fine squares where fine has a great one, and the other way round.
func nearlyFine() []api.Square {
	return sorted(append(grid(63, 2, 0, 0), sq(9, 1, 0))...)
}

// audited is Audit of a scene by the chapter's words.
func (c scene) audited(x api.Licence) ([2]int, api.Errno) {
	parts := c.parts()
	for i, m := range c.maps {
		if m.Name != name {
			continue
		}
		for k := range m.Dots {
			if !isSafe(x, parts[k]) {
				return [2]int{i, k}, api.OK
			}
		}
		parts = parts[len(m.Dots):]
	}
	return [2]int{}, api.ErrNone
}

// audit is Audit with its numbers as one.
func audit(county []api.Square, x api.Licence, l []api.DotMap) ([2]int, api.Errno) {
	i, k, e := dots.Audit(county, x, l)
	return [2]int{i, k}, e
}

// P8.1 (D15) and P8.5: if Audit finds nothing, nothing is told that the licence does not allow.
func TestAudit(t *testing.T) {
	count := map[[2]int]int{}
	clean := 0
	eachTrue(t, 3000, 40, func(r *rand.Rand, c scene) {
		x := someLicence(r)
		if r.IntN(3) > 0 {
			x = licence(r.IntN(2), 1+r.IntN(2))
		}
		at, e := audit(c.county, x, c.maps)
		expected, error := c.audited(x)
		wantBoth(t, "Audit by "+text(x), at, e, expected, error)
		count[at]++
		if e != api.ErrNone || len(c.parts()) == 0 {
			return
		}
		clean++
		if k, e := dots.Finest(c.county, c.maps, name); e != api.OK || k < x.Level {
			t.Errorf("Audit by %v finds nothing; Finest: %d, error %d", x, k, e)
		}
		p, _ := dots.Parts(c.county, c.maps, name)
		for _, part := range p {
			if is, e := dots.Safe(c.county, x, part); e != api.OK || !is || len(smallOf(part)) < x.Least {
				t.Errorf("Audit by %v finds nothing; %v is no part that may be told", x, part)
			}
		}
	})
	if len(count) < 8 || clean < 100 {
		t.Errorf("Audit found these, and nothing %d times: %v", clean, count)
	}
}

// P8.1 (D15): the examples, and a part that is small since another map has a Region.
func TestAuditExamples(t *testing.T) {
	county, x := []api.Square{sq(2, 0, 0)}, licence(1, 3)
	m := dotMap([]api.Square{sq(1, 0, 0), sq(1, 1, 0)}, county)
	n := dotMap([]api.Square{sq(0, 0, 0), sq(0, 1, 0)}, nil)
	k := dotMap(nil, []api.Square{sq(0, 0, 0), sq(0, 1, 0), sq(0, 0, 1)})
	o := api.DotMap{Name: other, Dots: []api.Square{sq(0, 3, 3)}, Region: county}
	at, e := audit(county, x, []api.DotMap{m})
	wantError(t, "Audit of one", at, e, api.ErrNone)
	at, e = audit(county, x, []api.DotMap{m, n})
	want(t, "Audit with small dots", at, e, [2]int{1, 0})
	at, e = audit(county, x, []api.DotMap{m, k})
	want(t, "Audit with a Region", at, e, [2]int{0, 0})
	at, e = audit(county, x, []api.DotMap{o, o, m, o, n})
	want(t, "Audit with other names", at, e, [2]int{4, 0})
	at, e = audit(county, x, []api.DotMap{o, dotMap([]api.Square{sq(0, 2, 2), sq(1, 0, 0)}, nil)})
	want(t, "Audit", at, e, [2]int{1, 0})
	at, e = audit(county, x, []api.DotMap{m, dotMap([]api.Square{sq(1, 0, 0), sq(1, 1, 0)}, []api.Square{sq(0, 2, 1)}), k})
	want(t, "Audit of the first map that has such a dot", at, e, [2]int{0, 0})
	at, e = audit(county, x, []api.DotMap{m, dotMap(nil, []api.Square{sq(0, 2, 1), sq(0, 3, 1)})})
	want(t, "Audit of the second dot", at, e, [2]int{0, 1})
	at, e = audit(county, x, nil)
	wantError(t, "Audit of none", at, e, api.ErrNone)
}

// published is Publish by the chapter's words, for arguments that are valid; it also returns how often it raised a dot of each kind.
func published(county []api.Square, x api.Licence, l []api.DotMap, f []api.Square) (api.DotMap, api.Errno, [2]int) {
	var raised [2]int
	m := dotMap(nil, slices.Clone(county))
	blur, e := dots.Blur(county, x, f)
	if e != api.OK {
		return api.DotMap{}, e, raised
	}
	m.Dots = blur
	for {
		at, e := audit(county, x, append(slices.Clone(l), m))
		if e == api.ErrNone {
			return m, api.OK, raised
		}
		if e != api.OK {
			return api.DotMap{}, e, raised
		}
		k := at[1]
		if at[0] < len(l) {
			found := l[at[0]].Dots[at[1]]
			k = slices.IndexFunc(m.Dots, func(s api.Square) bool {
				return s.Level < api.MaxLevel && (within(s, found) || within(found, s))
			})
			raised[0]++
		} else {
			raised[1]++
		}
		if k < 0 || m.Dots[k].Level == api.MaxLevel {
			return api.DotMap{}, api.ErrLicence, raised
		}
		m.Dots[k] = up(m.Dots[k], m.Dots[k].Level+1)
		m.Dots = outerOf(m.Dots)
	}
}

// P8.1 (D16) and P8.5: several maps are published, one after the other.
func TestPublish(t *testing.T) {
	errors := map[api.Errno]int{}
	var raised [2]int
	eachTrue(t, 4000, 40, func(r *rand.Rand, c scene) {
		x := someLicence(r)
		if r.IntN(2) == 0 {
			c.maps = nil
		}
		for range 4 {
			f := someOf(r, c.allowed(), 8)
			if r.IntN(4) > 0 {
				for _, part := range c.parts() {
					f = append(f, pick(r, part...)) // so that they are a world
				}
			}
			m, e := dots.Publish(c.county, x, c.maps, f)
			errors[e]++
			if !c.isWorld(f) {
				wantError(t, "Publish of what is no world", m, e, api.ErrFalse)
				continue
			}
			expected, error, n := published(c.county, x, c.maps, f)
			raised[0], raised[1] = raised[0]+n[0], raised[1]+n[1]
			wantBoth(t, "Publish of "+text(f)+" by "+text(x), m, e, expected, error)
			if e != api.OK {
				continue
			}
			c.maps = append(slices.Clone(c.maps), m)
			at, e := audit(c.county, x, c.maps)
			wantError(t, "Audit of what is published", at, e, api.ErrNone)
			is, e := dots.Holds(c.county, c.maps, name, f)
			want(t, "Holds of what is published", is, e, true)
			if !slices.Equal(m.Region, c.county) || dots.Check(c.county, m) != api.OK {
				t.Errorf("Publish: %v", m)
			}
		}
	})
	if errors[api.OK] < 1000 || errors[api.ErrFalse] < 200 || errors[api.ErrNone] < 100 || errors[api.ErrLicence] < 100 {
		t.Errorf("Publish returned these errors: %v", errors)
	}
	if raised[0] < 300 || raised[1] < 300 {
		t.Errorf("dots were raised %v times", raised)
	}
}

// P8.1 (D16): maps that make a dot be raised.
func TestPublishRaises(t *testing.T) {
	county := []api.Square{sq(2, 0, 0)}
	for _, x := range []struct {
		what    string
		county  []api.Square
		x       api.Licence
		old     []api.DotMap
		f, want []api.Square
		e       api.Errno
	}{
		{"the example", county, licence(1, 3), nil, []api.Square{sq(0, 3, 0), sq(0, 0, 0)}, []api.Square{sq(1, 0, 0), sq(1, 1, 0)}, api.OK},
		{"of none", county, licence(1, 3), nil, nil, nil, api.OK},
		{"of none in no county", nil, licence(10, 1<<20), nil, nil, nil, api.OK},
		{"a frame that is low", []api.Square{sq(0, 0, 0), sq(0, 4, 4)}, licence(2, 1), nil, []api.Square{sq(0, 0, 0)}, []api.Square{sq(3, 0, 0)}, api.OK},
		{"a county that is small", []api.Square{sq(0, 0, 0)}, licence(1, 1), nil, []api.Square{sq(0, 0, 0)}, nil, api.ErrLicence},
		{"no dot", county, licence(1, 17), nil, []api.Square{sq(0, 0, 0)}, nil, api.ErrNone},
		{
			"one takes up another", []api.Square{sq(0, 0, 0), sq(1, 1, 1)}, licence(1, 1), nil,
			[]api.Square{sq(0, 0, 0), sq(0, 2, 2)}, []api.Square{sq(2, 0, 0)}, api.OK,
		},
		{
			"a dot in an old one", county, licence(1, 3), []api.DotMap{dotMap([]api.Square{sq(2, 0, 0)}, nil), dotMap(nil, []api.Square{sq(1, 0, 0)})},
			[]api.Square{sq(0, 2, 0)}, []api.Square{sq(1, 1, 0)}, api.OK,
		},
		{
			"a dot in an old one that tells too much with it", county, licence(0, 2), []api.DotMap{dotMap([]api.Square{sq(2, 0, 0)}, nil), dotMap(nil, []api.Square{sq(0, 1, 0), sq(0, 0, 1), sq(0, 1, 1)})},
			[]api.Square{sq(0, 0, 0)}, []api.Square{sq(2, 0, 0)}, api.OK,
		},
		{
			"an old dot that is told", county, licence(0, 2), []api.DotMap{dotMap([]api.Square{sq(0, 0, 0)}, nil)},
			[]api.Square{sq(0, 0, 0)}, nil, api.ErrLicence,
		},
		{
			"maps of another name", county, licence(1, 3), []api.DotMap{{Name: other, Dots: []api.Square{sq(0, 1, 1)}, Region: county}},
			[]api.Square{sq(0, 0, 0)}, []api.Square{sq(1, 0, 0)}, api.OK,
		},
		{"no world", county, licence(1, 3), []api.DotMap{dotMap(nil, []api.Square{sq(0, 1, 1)})}, []api.Square{sq(0, 1, 1)}, nil, api.ErrFalse},
		{"no world, and no dot", county, licence(1, 17), []api.DotMap{dotMap(nil, []api.Square{sq(0, 1, 1)})}, []api.Square{sq(0, 1, 1)}, nil, api.ErrFalse},
	} {
		m, e := dots.Publish(x.county, x.x, x.old, x.f)
		expected := api.DotMap{}
		if x.e == api.OK {
			expected = dotMap(x.want, x.county)
		}
		wantBoth(t, "Publish, "+x.what, m, e, expected, x.e)
	}
}

// P8.1 (D17) and P8.7.
func TestBoth(t *testing.T) {
	eachTrue(t, 1500, 7, func(r *rand.Rand, c scene) {
		home := up(pick(r, append(c.small, sq(0, 0, 0))...), 3)
		a, b := someMap(r, c, home), someMap(r, c, home)
		m, e := dots.Both(a, b)
		if a.Name != b.Name {
			wantError(t, "Both of different names", m, e, api.ErrArg)
			return
		}
		region, _ := places.Intersect(a.Region, b.Region)
		want(t, "Both", m, e, api.DotMap{Name: a.Name, Dots: outerOf(slices.Concat(a.Dots, b.Dots)), Region: region})
		of := func(m api.DotMap) scene {
			m.Name = name
			return scene{county: c.county, small: c.small, maps: []api.DotMap{m}}
		}
		first, second := of(a).worlds(), of(b).worlds()
		for range 40 {
			if len(first) == 0 || len(second) == 0 {
				return
			}
			f := slices.Concat(pick(r, first...), pick(r, second...))
			is, e := dots.Holds(c.county, []api.DotMap{m}, m.Name, f)
			want(t, "Holds of both", is, e, true)
		}
	})
}

// P8.1 (D17): errors.
func TestBothErrors(t *testing.T) {
	a := dotMap([]api.Square{sq(0, 1, 1)}, whole())
	b := api.DotMap{Name: other}
	m, e := dots.Both(a, b)
	wantError(t, "Both of different names", m, e, api.ErrArg)
	for what, bad := range badMaps() {
		if dots.Check(whole(), bad) == api.OK { // but for the county
			m, e := dots.Both(bad, a)
			if e != api.OK {
				t.Errorf("Both of a map with %s: %v, error %d", what, m, e)
			}
			continue
		}
		m, e = dots.Both(bad, a)
		wantError(t, "Both, first "+what, m, e, api.ErrMap)
		m, e = dots.Both(b, bad)
		wantError(t, "Both, second "+what, m, e, api.ErrMap)
	}
}

// P8.1 (D17): as many dots, and squares of the Region, as there may be, and more.
func TestBothLimits(t *testing.T) {
	l := grid(64, 2, 0, 0)
	a, b := dotMap(l, fine()), dotMap(l, fine())
	m, e := dots.Both(a, b)
	want(t, "Both of a map and itself", m, e, a)
	b.Dots = []api.Square{sq(0, 1, 1)}
	m, e = dots.Both(a, b)
	wantError(t, "Both of too many dots", m, e, api.ErrLimit)
	b.Dots = []api.Square{sq(1, 5, 5)}
	m, e = dots.Both(a, b)
	want(t, "Both with a dot around another one", m, e, dotMap(sorted(append(those(l, func(s api.Square) bool { return s != sq(0, 10, 10) }), b.Dots[0])...), fine()))
	b = dotMap(nil, nearlyFine())
	m, e = dots.Both(a, b)
	wantError(t, "Both of too fine Regions", m, e, api.ErrLimit)
	b.Name = other
	m, e = dots.Both(a, b)
	wantError(t, "Both of too fine Regions with different names", m, e, api.ErrArg)
	b = dotMap(nil, whole())
	m, e = dots.Both(a, b)
	want(t, "Both with the whole map as Region", m, e, a)
}
