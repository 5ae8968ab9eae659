package sheets

import "noctuary/api"

// Sum returns the bounds of all lines together.
func Sum(s api.Sheet) (api.Span, api.Errno) {
	if !isValid(s) {
		return api.Span{}, api.ErrSheet
	}
	return api.Span(sumOf(s)), api.OK
}

// Rest returns the bounds of what no line tells.
func Rest(s api.Sheet) (api.Span, api.Errno) {
	sum, e := agreedSum(s)
	if e != api.OK {
		return api.Span{}, e
	}
	// If Total.Lo is below sum.Hi, the spans have a number in common, since the lines agree with the total: there may be no rest.
	return api.Span{Lo: max(0, s.Total.Lo-sum.Hi), Hi: s.Total.Hi - sum.Lo}, api.OK
}

// Agrees reports whether the lines can be with the total.
func Agrees(s api.Sheet) (bool, api.Errno) {
	switch _, e := agreedSum(s); e {
	case api.OK:
		return true, api.OK
	case api.ErrNone:
		return false, api.OK
	default:
		return false, e
	}
}

// Tight returns a sheet whose bounds are as narrow as they can be.
func Tight(s api.Sheet) (api.Sheet, api.Errno) {
	sum, e := agreedSum(s)
	if e != api.OK {
		return api.Sheet{}, e
	}
	out := copyOf(s)
	out.Total.Lo = max(s.Total.Lo, sum.Lo)
	for i, l := range s.Lines {
		others := sum.Lo - l.Count.Lo // there are at least as many on the other lines
		out.Lines[i].Count.Hi = min(l.Count.Hi, s.Total.Hi-others)
	}
	return out, api.OK
}

// agreedSum is Sum of a sheet whose lines agree with the total. Since what the lines leave is moths that no line tells, they agree if the least that they tell is not too much.
func agreedSum(s api.Sheet) (span, api.Errno) {
	if !isValid(s) {
		return span{}, api.ErrSheet
	}
	sum := sumOf(s)
	if sum.Lo > s.Total.Hi {
		return span{}, api.ErrNone
	}
	return sum, api.OK
}

// sumOf is Sum of a valid sheet.
func sumOf(s api.Sheet) span { return fold(s.Lines, span.plus) }

// fold puts the counts of lines together, one after the other.
func fold(lines []api.Line, put func(all, count span) span) span {
	var all span
	for _, l := range lines {
		all = put(all, span(l.Count))
	}
	return all
}

// span is the integers from Lo to Hi; there are none, if Lo is greater.
type span api.Span

// isCount reports whether a span is a count.
func (x span) isCount() bool {
	return 0 <= x.Lo && x.Lo <= x.Hi && x.Hi <= api.MaxCount
}

// plus returns the sums of the numbers of two spans.
func (x span) plus(y span) span { return span{Lo: x.Lo + y.Lo, Hi: x.Hi + y.Hi} }

// and returns what is in both of two spans.
func (x span) and(y span) span { return span{Lo: max(x.Lo, y.Lo), Hi: min(x.Hi, y.Hi)} }

func (x span) isEmpty() bool { return x.Lo > x.Hi }
