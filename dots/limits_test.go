package dots_test

import (
	"slices"
	"testing"

	"noctuary/api"
	"noctuary/dots"
)

// P8.1 (D7, D8): Allowed may have as many squares as a region, and no more.
func TestAllowedMost(t *testing.T) {
	county := sorted(append(grid(64, 2, 512, 0)[1:], sq(1, 0, 0))...)
	a, e := dots.Allowed(county, nil, name)
	want(t, "Allowed of the most squares", a, e, county)
	l := []api.DotMap{dotMap([]api.Square{sq(2, 128, 0)}, []api.Square{sq(0, 1, 1)})} // three squares are left of {1, 0, 0}
	a, e = dots.Allowed(county, l, name)
	wantError(t, "Allowed of too many squares", a, e, api.ErrLimit)
	p, e := dots.Parts(county, l, name)
	wantError(t, "Parts", p, e, api.ErrLimit)
	is, e := dots.Told(county, l, name, whole()[0])
	wantError(t, "Told", is, e, api.ErrLimit)
	is, e = dots.Holds(county, l, name, []api.Square{sq(0, 514, 0)})
	want(t, "Holds, however many squares are allowed", is, e, true)
	is, e = dots.Holds(county, l, name, []api.Square{sq(0, 514, 0), sq(0, 1, 1)})
	want(t, "Holds of what is not allowed", is, e, false)
	m, e := dots.Publish(county, licence(0, 1), l, []api.Square{sq(0, 514, 0)})
	wantError(t, "Publish", m, e, api.ErrLimit)
}

// P8.1 (D7): what maps do not allow may need more squares than a region has, as long as Allowed does not.
func TestAllowedBetween(t *testing.T) {
	county := append(grid(64, 16, 3, 3), sq(0, 1023, 1023))[:api.MaxSquares]
	finest := dotMap(county, whole())
	a, e := dots.Allowed(whole(), []api.DotMap{finest}, name)
	want(t, "Allowed", a, e, county)
	a, e = dots.Allowed(county, []api.DotMap{dotMap(nil, grid(64, 16, 5, 5)), finest, dotMap(nil, grid(64, 16, 4, 3))}, name)
	want(t, "Allowed of three maps", a, e, county)
	w, e := dots.World(whole(), []api.DotMap{dotMap([]api.Square{sq(10, 0, 0)}, nil), finest}, name)
	want(t, "World", w, e, county)
	l := []api.DotMap{dotMap(nil, grid(64, 16, 3, 3)), dotMap([]api.Square{sq(0, 0, 0)}, whole())}
	a, e = dots.Allowed(whole(), l, name)
	want(t, "Allowed of a map with few dots behind one with many holes", a, e, []api.Square{sq(0, 0, 0)})
	slices.Reverse(l)
	a, e = dots.Allowed(whole(), l, name)
	want(t, "Allowed of a map with few dots ahead of one with many holes", a, e, []api.Square{sq(0, 0, 0)})
}

// P8.1 (D9): World has as many squares as a list may have, and no more.
func TestWorldMost(t *testing.T) {
	l := []api.DotMap{dotMap(grid(64, 2, 0, 0), nil), dotMap([]api.Square{sq(0, 0, 0)}, nil)}
	w, e := dots.World(whole(), l, name)
	want(t, "World of the most squares", w, e, l[0].Dots)
	l = append(l, dotMap([]api.Square{sq(9, 0, 0)}, nil))
	w, e = dots.World(whole(), l, name)
	want(t, "World of the most squares and more dots", w, e, l[0].Dots)
	l = append(l, dotMap([]api.Square{sq(0, 1, 0)}, nil))
	w, e = dots.World(whole(), l, name)
	wantError(t, "World of too many squares", w, e, api.ErrLimit)
	p, e := dots.Parts(whole(), l, name)
	if e != api.OK || len(p) != api.MaxSquares+1 {
		t.Errorf("there are %d parts, error %d", len(p), e)
	}
	k, e := dots.Finest(whole(), l, name)
	want(t, "Finest", k, e, 0)
}

// P8.1 (D16): Audit returns ErrLimit for the first dots.
func TestPublishTooFine(t *testing.T) {
	county, x := fine(), licence(2, 1)
	var f []api.Square
	for k := range 32 {
		for i := range 32 {
			f = append(f, sq(0, 514+4*i, 2+4*k))
		}
	}
	f = append(f, sq(0, 1, 1))
	m, e := dots.Publish(county, x, nil, f)
	if e != api.OK || len(m.Dots) != 1025 {
		t.Errorf("Publish where just so many squares are allowed: %d dots, error %d", len(m.Dots), e)
	}
	m, e = dots.Publish(county, x, nil, append(f, sq(0, 9, 9)))
	wantError(t, "Publish where too many squares are allowed", m, e, api.ErrLimit)
}

// P8.1 (D16): Audit returns ErrLimit for dots on the way, even if those that are raised further would not be too many.
func TestPublishTooFineOnTheWay(t *testing.T) {
	x := licence(1, 1)
	lonely := []api.Square{sq(0, 0, 0), sq(0, 2, 0), sq(0, 0, 2), sq(0, 2, 2)} // the dot of the first one is raised once: four squares for one
	great := sq(5, 1, 16)
	far := sq(0, 0, 512) // its dot is raised up to the parent of the great square, whose dots it takes up
	county := append(slices.Clone(lonely), far, great)
	f := []api.Square{lonely[0], far}
	for k := range 16 {
		for i := range 8 {
			f = append(f, sq(0, 32+4*i+2*(k%2), 512+2*k))
		}
	}
	for i := range 1982 {
		s := sq(0, 512+4*(i%64), 4*(i/64))
		county = append(county, s, sq(0, s.X+1, s.Y+1))
		f = append(f, s)
	}
	county = sorted(county...)
	m, e := dots.Publish(county, x, nil, f)
	wantError(t, "Publish", m, e, api.ErrLimit)
	f = f[:len(f)-1]
	m, e = dots.Publish(county, x, nil, f)
	if e != api.OK || len(m.Dots) != 1983 || !slices.Contains(m.Dots, sq(2, 0, 0)) || !slices.Contains(m.Dots, sq(6, 0, 8)) {
		t.Errorf("Publish of less: %d dots, error %d", len(m.Dots), e)
	}
}

// P8.1 (D16): a dot around that of an old map, which tells too much, is raised in vain: until no dot can be raised, or Audit returns ErrLimit.
func TestPublishInVain(t *testing.T) {
	x := licence(2, 1)
	near := []api.Square{sq(0, 0, 0), sq(0, 3, 3), sq(0, 4, 4)} // the dot of the first one is raised: three squares for two
	far := grid(64, 2, 512, 0)[:api.MaxSquares-4]
	county := sorted(slices.Concat(near, far, []api.Square{sq(7, 1, 0)})...)
	old := []api.DotMap{dotMap(near[:1], nil)}
	f := slices.Concat(near[:1], far, []api.Square{sq(0, 128, 0)})
	m, e := dots.Publish(county, x, old, f)
	wantError(t, "Publish with a dot of the great square", m, e, api.ErrLicence)
	m, e = dots.Publish(county, x, old, append(f, sq(0, 136, 8)))
	wantError(t, "Publish with two dots of the great square", m, e, api.ErrLimit)
}

// P8.1 (D16): each of the most squares is raised several times.
func TestPublishMost(t *testing.T) {
	county := grid(64, 16, 8, 8)
	m, e := dots.Publish(county, licence(1, 1), nil, county)
	var expected []api.Square
	for i := range 1024 {
		expected = append(expected, sq(5, i%32, i/32))
	}
	want(t, "Publish", m, e, dotMap(expected, county))
	m, e = dots.Publish(county, licence(0, 4000), nil, county[:1])
	want(t, "Publish of a great dot", m, e, dotMap(whole(), county))
}

// P8.1: the most maps with the most dots.
func TestMostMaps(t *testing.T) {
	r := random()
	county := grid(64, 16, 0, 0)
	var l []api.DotMap
	for range api.MaxMaps {
		var m api.DotMap
		for _, s := range county {
			m.Dots = append(m.Dots, up(s, r.IntN(4)))
		}
		l = append(l, dotMap(sorted(m.Dots...), whole()))
	}
	w, e := dots.World(county, l, name)
	want(t, "World", w, e, county)
	p, e := dots.Parts(county, l, name)
	if e != api.OK || len(p) != len(county) {
		t.Errorf("there are %d parts, error %d", len(p), e)
	}
	at, e := audit(county, licence(1, 1), l)
	want(t, "Audit", at, e, [2]int{0, 0})
	at, e = audit(county, licence(0, 1), l)
	wantError(t, "Audit", at, e, api.ErrNone)
	m, e := dots.Publish(county, licence(0, 1), l[1:], county)
	want(t, "Publish", m, e, dotMap(county, county))
}
