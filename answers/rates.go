package answers

import (
	"noctuary/api"
	"noctuary/places"
)

// Effort returns the power of the lamps of a region and some nights.
func Effort(c api.Case, region []api.Square, nights api.Span) (int, api.Errno) {
	r, e := open(c, ofRegion(region), ofNights(nights))
	if e != api.OK {
		return 0, e
	}
	return r.effort(inside(region, nights)), api.OK
}

// Index returns the bounds of the count by the effort.
func Index(c api.Case, name int, region []api.Square, nights api.Span) (low, high api.Ratio, e api.Errno) {
	q, e := ask(c, ofName(name), ofRegion(region), ofNights(nights))
	if e != api.OK {
		return api.Ratio{}, api.Ratio{}, e
	}
	return q.index(name, inside(region, nights))
}

// Change returns whether a name surely became fewer or more.
func Change(c api.Case, name int, region []api.Square, old, now api.Span) (int, api.Errno) {
	q, e := ask(c, ofName(name), ofRegion(region), ofNights(old), ofNights(now))
	if e != api.OK {
		return 0, e
	}
	oldLow, oldHigh, e := q.index(name, inside(region, old))
	if e != api.OK {
		return 0, e
	}
	low, high, e := q.index(name, inside(region, now))
	switch {
	case e != api.OK:
		return 0, e
	case isGreater(low, oldHigh):
		return 1, api.OK
	case isGreater(oldLow, high):
		return -1, api.OK
	}
	return 0, api.OK
}

// inside tells which catches are in a region and nights. A square of level 0 is covered by a region if one of its squares covers it.
func inside(region []api.Square, nights api.Span) func(api.Catch) bool {
	has := map[api.Square]bool{}
	for _, s := range region {
		has[s] = true
	}
	return func(x api.Catch) bool {
		if !between(x.Night, nights.Lo, nights.Hi) {
			return false
		}
		for level := range api.MaxLevel + 1 {
			if s, _ := places.Blur(x.Square, level); has[s] {
				return true
			}
		}
		return false
	}
}

// effort returns the power of the lamps of some catches.
func (r reading) effort(isIn func(api.Catch) bool) int {
	sum := 0
	for _, x := range r.Catches {
		if isIn(x) {
			sum += r.powers[x.Lamp]
		}
	}
	return sum
}

// where returns how many of a name there were in some catches.
func (q question) where(name int, isIn func(api.Catch) bool) (api.Span, api.Errno) {
	var arcs []int
	for _, g := range groupsOf(q, name, isIn) {
		if g.key {
			arcs = g.arcs
		}
	}
	return q.span(arcs)
}

// index returns both ends of where by the effort.
func (q question) index(name int, isIn func(api.Catch) bool) (low, high api.Ratio, e api.Errno) {
	s, e := q.where(name, isIn)
	if e != api.OK {
		return api.Ratio{}, api.Ratio{}, e
	}
	effort := q.effort(isIn)
	if effort == 0 {
		return api.Ratio{}, api.Ratio{}, api.ErrEffort
	}
	return ratio(s.Lo, effort), ratio(s.Hi, effort), api.OK
}

// ratio returns a fraction in lowest terms; the denominator is above 0.
func ratio(num, den int) api.Ratio {
	a, b := num, den
	for b != 0 {
		a, b = b, a%b
	}
	return api.Ratio{Num: num / a, Den: den / a}
}

func isGreater(a, b api.Ratio) bool { return a.Num*b.Den > b.Num*a.Den }
