package sheets_test

import (
	"math/rand/v2"
	"testing"

	"noctuary/api"
	"noctuary/sheets"
)

// P4.1 (R6 to R9): the chapter's examples, and the example of the document.
func TestBounds(t *testing.T) {
	s := sample()
	x, e := sheets.Sum(s)
	wantSame(t, "Sum", x, e, span(8, 14))
	x, e = sheets.Rest(s)
	wantSame(t, "Rest", x, e, span(0, 12))
	is, e := sheets.Agrees(s)
	wantSame(t, "Agrees", is, e, true)
	tight, e := sheets.Tight(s)
	wantSheet(t, "Tight", tight, e, s)

	s.Total = span(0, 9)
	x, e = sheets.Rest(s)
	wantSame(t, "Rest of at most 9", x, e, span(0, 1))
	tight, e = sheets.Tight(s)
	wantSheet(t, "Tight of at most 9", tight, e, sheet(span(8, 9), line(4, 3, 4), line(8, 5, 5, 3, 1)))

	s.Total = span(0, 7)
	wantError(t, "Rest of at most 7", oneSpan(sheets.Rest(s)), api.ErrNone)
	wantError(t, "Tight of at most 7", oneSheet(sheets.Tight(s)), api.ErrNone)
	is, e = sheets.Agrees(s)
	wantSame(t, "Agrees of at most 7", is, e, false)
	x, e = sheets.Sum(s)
	wantSame(t, "Sum of at most 7", x, e, span(8, 14))

	s.Total = span(0, 8)
	x, e = sheets.Rest(s)
	wantSame(t, "Rest of at most 8", x, e, span(0, 0))
	tight, e = sheets.Tight(s)
	wantSheet(t, "Tight of at most 8", tight, e, sheet(span(8, 8), line(4, 3, 3), line(8, 5, 5, 3, 1)))
}

// P4.1 (R6 to R9): no lines, more moths than lines tell, and the greatest numbers.
func TestBoundsOfEnds(t *testing.T) {
	s := sheet(span(3, 4))
	x, e := sheets.Sum(s)
	wantSame(t, "Sum of no lines", x, e, span(0, 0))
	x, e = sheets.Rest(s)
	wantSame(t, "Rest of no lines", x, e, span(3, 4))
	tight, e := sheets.Tight(s)
	wantSheet(t, "Tight of no lines", tight, e, s)

	s = sheet(span(20, 30), line(1, 2, 5), line(1, 3, 6))
	x, e = sheets.Rest(s)
	wantSame(t, "Rest of many moths", x, e, span(9, 25))
	tight, e = sheets.Tight(s)
	wantSheet(t, "Tight of many moths", tight, e, s)

	great := greatestSheet()
	x, e = sheets.Sum(great)
	wantSame(t, "Sum of the greatest", x, e, span(api.MaxLines*api.MaxCount, api.MaxLines*api.MaxCount))
	is, e := sheets.Agrees(great)
	wantSame(t, "Agrees of the greatest", is, e, false)
	wantError(t, "Rest of the greatest", oneSpan(sheets.Rest(great)), api.ErrNone)
	for i := range great.Lines {
		great.Lines[i].Count.Lo = 0
	}
	x, e = sheets.Rest(great)
	wantSame(t, "Rest of the widest", x, e, span(0, api.MaxCount))
	tight, e = sheets.Tight(great)
	wantSheet(t, "Tight of the widest", tight, e, great)
}

// eachSmallSheet calls a test with many small sheets, some of which do not agree.
func eachSmallSheet(t *testing.T, do func(r *rand.Rand, s api.Sheet)) {
	t.Helper()
	r := random()
	for range 400 {
		s := smallSheet(r)
		do(r, s)
		if t.Failed() {
			t.Fatalf("the sheet was %v", s)
		}
	}
}

// P4.1 (R6 to R9), P4.3, P4.4: by all that may really have been.
func TestBoundsByRealities(t *testing.T) {
	disagree := 0
	eachSmallSheet(t, func(_ *rand.Rand, s api.Sheet) {
		all := allRealities(s)
		is, e := sheets.Agrees(s)
		wantSame(t, "Agrees", is, e, len(all) > 0)
		if len(all) == 0 {
			disagree++
			wantError(t, "Rest", oneSpan(sheets.Rest(s)), api.ErrNone)
			wantError(t, "Tight", oneSheet(sheets.Tight(s)), api.ErrNone)
			return
		}
		rest, want := noSpan(), copyOf(s)
		want.Total = noSpan()
		for i := range want.Lines {
			want.Lines[i].Count = noSpan()
		}
		for _, l := range all {
			total := l[len(s.Lines)]
			left := total
			for i, n := range l[:len(s.Lines)] {
				left -= n
				widen(&want.Lines[i].Count, n)
			}
			widen(&want.Total, total)
			widen(&rest, left)
		}
		x, e := sheets.Rest(s)
		wantSame(t, "Rest", x, e, rest)
		tight, e := sheets.Tight(s)
		wantSheet(t, "Tight", tight, e, want)
	})
	if disagree < 20 || disagree > 200 {
		t.Errorf("%d sheets did not agree", disagree)
	}
}

// noSpan is a span without numbers, which widen makes one of a number.
func noSpan() api.Span { return span(huge, -huge) }

// widen lets a span have a number.
func widen(x *api.Span, n int) {
	x.Lo, x.Hi = min(x.Lo, n), max(x.Hi, n)
}

// P4.1 (R6): Sum is of all numbers of the lines, whatever the total.
func TestSumByRealities(t *testing.T) {
	eachSmallSheet(t, func(_ *rand.Rand, s api.Sheet) {
		want := span(0, 0)
		for _, l := range s.Lines {
			want = span(want.Lo+l.Count.Lo, want.Hi+l.Count.Hi)
		}
		x, e := sheets.Sum(s)
		wantSame(t, "Sum", x, e, want)
	})
}

// P4.3, P4.4: by the Tight sheet the same may really have been; it is its own Tight, and has the same Rest.
func TestTightOfTight(t *testing.T) {
	eachSmallSheet(t, func(_ *rand.Rand, s api.Sheet) {
		tight, e := sheets.Tight(s)
		if e != api.OK {
			return
		}
		if !sameLists(allRealities(s), allRealities(tight)) {
			t.Errorf("something else may have been by %v", tight)
		}
		again, e := sheets.Tight(tight)
		wantSheet(t, "Tight of Tight", again, e, tight)
		rest, _ := sheets.Rest(s)
		x, e := sheets.Rest(tight)
		wantSame(t, "Rest of Tight", x, e, rest)
	})
}

// P4.1 (R9): what Tight returns is new memory (R7).
func TestMemoryOfTight(t *testing.T) {
	s := sample()
	tight, _ := sheets.Tight(s)
	spoil(tight)
	if !sameSheet(s, sample()) {
		t.Errorf("Tight shares memory with its argument: %v", s)
	}
	tight, _ = sheets.Tight(s)
	spoil(s)
	wantSheet(t, "Tight", tight, api.OK, sample())
}
