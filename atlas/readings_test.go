package atlas_test

import (
	"iter"
	"slices"

	"noctuary/answers"
	"noctuary/api"
	"noctuary/names"
	"noctuary/places"
)

// reading says of how many moths of each record each name is true.
type reading []map[int]int

// claims is what the records, catches and series of a case ask of readings, without its net.
type claims struct {
	c          api.Case
	candidates [][]int
	taken      []api.Span
	catches    []int         // of the records
	series     []map[int]int // of the records and names: where the record belongs to one
	counts     map[int]api.Span
}

func claimsOf(c api.Case) claims {
	k := claims{c: c, counts: map[int]api.Span{}}
	for i, x := range c.Records {
		l, _ := answers.Candidates(c, i)
		taken, _ := answers.Taken(c, i)
		belongs := map[int]int{}
		for _, name := range l {
			if s, e := answers.SeriesOf(c, i, name); e == api.OK {
				belongs[name] = s
			}
		}
		k.candidates, k.taken, k.series = append(k.candidates, l), append(k.taken, taken), append(k.series, belongs)
		k.catches = append(k.catches, slices.IndexFunc(c.Catches, func(y api.Catch) bool { return y.Sheet == x.Sheet }))
	}
	last, _ := names.Last(c.Book)
	for i, s := range c.Series {
		v, _ := names.VersionOf(c.Book, s.Year)
		if _, e := names.Exact(c.Book, v, s.Name, last); e == api.OK {
			k.counts[i] = s.Count
		}
	}
	return k
}

// readings yields all readings that are consistent; what it yields is used again.
func (k claims) readings() iter.Seq[reading] {
	return func(yield func(reading) bool) {
		now := make(reading, len(k.taken))
		for i := range now {
			now[i] = map[int]int{}
		}
		k.choose(now, 0, 0, yield)
	}
}

// choose goes through all numbers for the candidates of a record from an index on, and for all further records.
func (k claims) choose(now reading, record, at int, yield func(reading) bool) bool {
	if record == len(now) {
		return !k.holds(now) || yield(now)
	}
	told := 0
	for _, n := range now[record] {
		told += n
	}
	if at == len(k.candidates[record]) {
		return told < k.taken[record].Lo || k.choose(now, record+1, 0, yield)
	}
	name := k.candidates[record][at]
	for n := 0; told+n <= k.taken[record].Hi; n++ {
		now[record][name] = n
		if !k.choose(now, record, at+1, yield) {
			return false
		}
	}
	now[record][name] = 0
	return true
}

// holds reports whether the numbers of records, each of which is what it may be counted for, agree with all catches and series.
func (k claims) holds(l reading) bool {
	told := make([]int, len(k.c.Catches))
	worked := map[int]int{}
	for i, shares := range l {
		for name, n := range shares {
			told[k.catches[i]] += n
			if s, belongs := k.series[i][name]; belongs {
				worked[s] += n
			}
		}
	}
	for i, x := range k.c.Catches {
		if told[i] > x.Total.Hi {
			return false
		}
	}
	for s, count := range k.counts {
		if worked[s] < count.Lo || worked[s] > count.Hi {
			return false
		}
	}
	return true
}

// number returns how many of a name there are in a reading.
func (l reading) number(name int) int {
	sum := 0
	for _, shares := range l {
		sum += shares[name]
	}
	return sum
}

// nights returns the first and the last night of a name in a reading, and squares all squares in which it is.
func (k claims) nights(l reading, name int) (first, last int, squares []api.Square) {
	first, last = -1, -1
	for i, shares := range l {
		if shares[name] == 0 {
			continue
		}
		x := k.c.Catches[k.catches[i]]
		if first < 0 || x.Night < first {
			first = x.Night
		}
		last = max(last, x.Night)
		squares = append(squares, x.Square)
	}
	return first, last, squares
}

// answer returns what all readings together tell of a name, if there is a reading.
func (k claims) answer(name int) (x api.Answer, possible bool) {
	sure := map[api.Square]int{} // in how many readings
	total, never := 0, false
	for l := range k.readings() {
		n := l.number(name)
		first, last, squares := k.nights(l, name)
		if total == 0 {
			x = api.Answer{Name: name, Count: span(n, n), First: span(-1, -1), Last: span(-1, -1)}
		}
		total++
		x.Count = span(min(x.Count.Lo, n), max(x.Count.Hi, n))
		seen := map[api.Square]bool{}
		for _, s := range squares {
			seen[s] = true
		}
		for s := range seen {
			sure[s]++
		}
		if n == 0 {
			never = true
			continue
		}
		if x.First.Lo < 0 {
			x.First, x.Last = span(first, first), span(last, last)
		}
		x.First = span(min(x.First.Lo, first), max(x.First.Hi, first))
		x.Last = span(min(x.Last.Lo, last), max(x.Last.Hi, last))
	}
	if never {
		x.First.Hi, x.Last.Lo = -1, -1
	}
	for s, n := range sure {
		x.May = append(x.May, s)
		if n == total {
			x.Sure = append(x.Sure, s)
		}
	}
	x.Sure, _ = places.Normal(x.Sure)
	x.May, _ = places.Normal(x.May)
	return x, total > 0
}
