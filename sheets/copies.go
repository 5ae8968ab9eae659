package sheets

import (
	"slices"

	"noctuary/api"
)

// Merge returns what two sheets of one catch tell together.
func Merge(a, b api.Sheet) (api.Sheet, api.Errno) {
	if !isValid(a) || !isValid(b) {
		return api.Sheet{}, api.ErrSheet
	}
	if catchOf(a) != catchOf(b) {
		return api.Sheet{}, api.ErrArg
	}
	total := span(a.Total).and(span(b.Total))
	lines, can := mergeLines(a.Lines, b.Lines)
	if total.isEmpty() || !can {
		return api.Sheet{}, api.ErrNone
	}
	if len(lines) > api.MaxLines {
		return api.Sheet{}, api.ErrLimit
	}
	out := a
	out.Total, out.Lines = api.Span(total), lines
	return out, api.OK
}

// catch is what copies of one sheet have in common.
type catch struct {
	visit      visit
	year, lamp int
}

func catchOf(s api.Sheet) catch {
	return catch{visit: visitOf(s), year: s.Year, lamp: s.Lamp}
}

// turn tells which one of the lines of its name a line is.
type turn struct{ name, ahead int }

// turnsOf returns the turn of each line.
func turnsOf(lines []api.Line) []turn {
	counts := map[int]int{}
	out := make([]turn, len(lines))
	for i, l := range lines {
		out[i] = turn{name: l.Name, ahead: counts[l.Name]}
		counts[l.Name]++
	}
	return out
}

// mergeLines returns the lines of a, and those of b that belong together with none of them, if what belongs together can be true together.
func mergeLines(a, b []api.Line) (lines []api.Line, can bool) {
	at := map[turn]int{}
	for i, x := range turnsOf(a) {
		at[x] = i
		lines = append(lines, copyOfLine(a[i]))
	}
	for i, x := range turnsOf(b) {
		k, found := at[x]
		if !found {
			lines = append(lines, copyOfLine(b[i]))
			continue
		}
		both, can := mergeLine(a[k], b[i])
		if !can {
			return nil, false
		}
		lines[k] = both
	}
	return lines, true
}

// mergeLine returns what two lines of one name tell together.
func mergeLine(a, b api.Line) (both api.Line, can bool) {
	count := span(a.Count).and(span(b.Count))
	seen, can := mergeSeen(a.Seen, b.Seen)
	if count.isEmpty() || !can {
		return api.Line{}, false
	}
	return api.Line{Name: a.Name, Count: api.Span(count), Seen: seen}, true
}

// mergeSeen returns the sets of what was seen of a voucher twice; an empty list says that there was none.
func mergeSeen(a, b []int) (both []int, can bool) {
	switch {
	case len(a) == 0:
		return slices.Clone(b), true
	case len(b) == 0:
		return slices.Clone(a), true
	case len(a) != len(b):
		return nil, false
	}
	for i, set := range a {
		both = append(both, set&b[i])
	}
	return both, !slices.Contains(both, 0)
}
