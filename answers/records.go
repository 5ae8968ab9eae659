package answers

import (
	"cmp"
	"slices"

	"noctuary/api"
	"noctuary/keys"
)

// candidates returns what a record may be, in order.
func (r reading) candidates(record int) []int {
	x := r.Records[record]
	some := x.Names
	if len(some) == 0 {
		some = []int{x.Said}
	}
	return slices.DeleteFunc(r.meaningNow(x.Year, some), func(name int) bool { return !r.fits(name, x.Seen) })
}

// candid returns what each record may be.
func (r reading) candid() [][]int {
	out := make([][]int, len(r.Records))
	for i := range out {
		out[i] = r.candidates(i)
	}
	return out
}

// fits reports whether a name has no row, or fits each of what was seen. It asks a matrix with the row of the name alone, which tells the same and is checked sooner.
func (r reading) fits(name int, seen [][]int) bool {
	rows := r.Matrix.Rows
	i, found := slices.BinarySearchFunc(rows, name, func(x api.Row, name int) int { return cmp.Compare(x.Name, name) })
	if !found {
		return true
	}
	own := api.Matrix{States: r.Matrix.States, Rows: rows[i : i+1]}
	for _, s := range seen {
		if is, _ := keys.Fits(own, name, s); !is {
			return false
		}
	}
	return true
}

// taken returns what a record may be counted for.
func taken(x api.Record) api.Span {
	switch x.State {
	case api.StateRejected:
		return api.Span{}
	case api.StateQueried:
		return api.Span{Hi: x.Count.Hi}
	}
	return x.Count
}

// worked is the series of a case that count, in order, and how they are found.
type worked struct {
	counting []counted
	by       map[work][]int // the indices in counting of those of one work
}

// counted is a series that counts.
type counted struct {
	series        int // its index
	name          int
	nights, count api.Span
}

// work is what a record of a name has in common with the series to which it may belong.
type work struct{ observer, said, year, name int }

// workedOf returns the series that count, in order.
func workedOf(r reading) worked {
	w := worked{by: map[work][]int{}}
	for i, x := range r.Series {
		name, found := r.exactNow(x.Year, x.Name)
		if !found {
			continue
		}
		key := work{observer: x.Observer, said: x.Said, year: x.Year, name: name}
		w.by[key] = append(w.by[key], len(w.counting))
		w.counting = append(w.counting, counted{series: i, name: name, nights: nightsOf(x), count: x.Count})
	}
	return w
}

// find returns the index in counting of the series to which a record belongs, if it belongs to one. The record is of a name that is one of its candidates.
func (w worked) find(x api.Record, of api.Catch, name int) (k int, found bool) {
	if x.State == api.StateRejected {
		return 0, false
	}
	for _, k := range w.by[work{observer: of.Observer, said: x.Said, year: x.Year, name: name}] {
		if s := w.counting[k]; between(of.Night, s.nights.Lo, s.nights.Hi) {
			return k, true
		}
	}
	return 0, false
}
