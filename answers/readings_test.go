package answers_test

import (
	"iter"
	"slices"

	"noctuary/api"
)

// reading says of how many moths of each record each name is true.
type reading []map[int]int

// consistent is what a case asks of readings, by the chapter's words: all that it says of numbers of moths.
type consistent struct {
	candidates [][]int
	taken      []api.Span
	catches    []int         // of the records
	totals     []int         // of the catches: how many moths the records may tell together
	series     []map[int]int // of the records and names: where the record belongs to one
	counts     map[int]api.Span
}

func consistentOf(c api.Case) consistent {
	out := consistent{counts: map[int]api.Span{}}
	for _, x := range c.Catches {
		out.totals = append(out.totals, x.Total.Hi)
	}
	for _, x := range c.Records {
		l := candidatesOf(c, x)
		belongs := map[int]int{}
		for _, name := range l {
			if i := seriesOf(c, x, name); i >= 0 {
				belongs[name] = i
			}
		}
		out.candidates = append(out.candidates, l)
		out.taken = append(out.taken, takenOf(x))
		out.catches = append(out.catches, slices.Index(c.Catches, catchOf(c, x)))
		out.series = append(out.series, belongs)
	}
	for _, i := range counting(c) {
		out.counts[i] = c.Series[i].Count
	}
	return out
}

// only makes the counts of all records but those of a set uncertain.
func (k consistent) only(set []int) consistent {
	k.taken = slices.Clone(k.taken)
	for i := range k.taken {
		if !slices.Contains(set, i) {
			k.taken[i].Lo = 0
		}
	}
	return k
}

// readings yields all readings that are consistent; what it yields is used again.
func (k consistent) readings() iter.Seq[reading] {
	return func(yield func(reading) bool) {
		now := make(reading, len(k.taken))
		left := slices.Clone(k.totals)
		sums := map[int]int{}
		var choose func(record, at, told int) bool
		choose = func(record, at, told int) bool {
			if record == len(now) {
				for i, s := range k.counts {
					if sums[i] < s.Lo {
						return true
					}
				}
				return yield(now)
			}
			if at == 0 {
				now[record] = map[int]int{}
			}
			if at == len(k.candidates[record]) {
				return told < k.taken[record].Lo || choose(record+1, 0, 0)
			}
			name := k.candidates[record][at]
			i, belongs := k.series[record][name]
			if !belongs {
				i = -1 // whose sum nobody asks for
			}
			for n := 0; told+n <= k.taken[record].Hi && n <= left[k.catches[record]]; n++ {
				if belongs && sums[i]+n > k.counts[i].Hi {
					break
				}
				now[record][name] = n
				left[k.catches[record]] -= n
				sums[i] += n
				more := choose(record, at+1, told+n)
				left[k.catches[record]] += n
				sums[i] -= n
				if !more {
					return false
				}
			}
			now[record][name] = 0
			return true
		}
		choose(0, 0, 0)
	}
}

// has reports whether there is a consistent reading.
func (k consistent) has() bool {
	for range k.readings() {
		return true
	}
	return false
}

// clash is Clash by the chapter's words, of a case that is not possible.
func (k consistent) clash() []int {
	var best []int
	found := false
	for bits := range 1 << len(k.taken) {
		var set []int
		for i := range k.taken {
			if bits>>i&1 == 1 {
				set = append(set, i)
			}
		}
		if found && (len(set) > len(best) || len(set) == len(best) && slices.Compare(set, best) > 0) {
			continue
		}
		if !k.only(set).has() {
			best, found = set, true
		}
	}
	return best
}

// told is what all readings of a case tell of a name.
type told struct {
	some        bool
	count       api.Span
	where       api.Span // in a region and nights
	first, last api.Span
	sure, may   []api.Square
}

// tell returns what all readings tell of each name; isIn tells which catches are in a region and nights.
func tell(c api.Case, isIn func(api.Catch) bool) (out map[int]told, possible bool) {
	out = map[int]told{}
	for given := range consistentOf(c).readings() {
		possible = true
		for _, name := range now(c) {
			out[name] = out[name].and(tellOf(c, given, name, isIn))
		}
	}
	for name, x := range out {
		x.sure, x.may = regionOf(x.sure), regionOf(x.may)
		out[name] = x
	}
	return out, possible
}

// tellOf returns what one reading tells of a name.
func tellOf(c api.Case, given reading, name int, isIn func(api.Catch) bool) told {
	x := told{some: true, first: span(-1, -1), last: span(-1, -1)}
	for i, r := range c.Records {
		n, of := given[i][name], catchOf(c, r)
		if n == 0 {
			continue
		}
		x.count = plus(x.count, n)
		if isIn(of) {
			x.where = plus(x.where, n)
		}
		if x.first.Lo == -1 || of.Night < x.first.Lo {
			x.first = span(of.Night, of.Night)
		}
		x.last = span(max(x.last.Lo, of.Night), max(x.last.Hi, of.Night))
		if !slices.Contains(x.may, of.Square) {
			x.may = append(x.may, of.Square)
		}
	}
	x.sure = slices.Clone(x.may)
	return x
}

func plus(s api.Span, n int) api.Span { return span(s.Lo+n, s.Hi+n) }

// and returns what two sets of readings tell together.
func (x told) and(y told) told {
	if !x.some {
		return y
	}
	both := told{some: true, count: hull(x.count, y.count), where: hull(x.where, y.where)}
	// The earliest night that is possible, and the latest one that all first nights keep to; the other way round for the last nights.
	both.first = span(least(x.first.Lo, y.first.Lo), -1)
	if x.first.Hi >= 0 && y.first.Hi >= 0 {
		both.first.Hi = max(x.first.Hi, y.first.Hi)
	}
	both.last = span(min(x.last.Lo, y.last.Lo), max(x.last.Hi, y.last.Hi))
	for _, s := range x.sure {
		if slices.Contains(y.sure, s) {
			both.sure = append(both.sure, s)
		}
	}
	both.may = slices.Clone(x.may)
	for _, s := range y.may {
		if !slices.Contains(both.may, s) {
			both.may = append(both.may, s)
		}
	}
	return both
}

func hull(a, b api.Span) api.Span { return span(min(a.Lo, b.Lo), max(a.Hi, b.Hi)) }

// least returns the lesser one of two nights, of which -1 is none.
func least(a, b int) int {
	if a < 0 || b < 0 {
		return max(a, b)
	}
	return min(a, b)
}
