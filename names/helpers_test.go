package names_test

import (
	"iter"
	"math/rand/v2"
	"slices"
	"testing"

	"noctuary/api"
	"noctuary/names"
)

// sample is the book of the chapter's examples.
func sample() api.NameBook {
	return bookOf([]int{1, 2, 3}, change(5, []int{2}, []int{4, 5}), change(8, []int{3, 4}, []int{3}))
}

func bookOf(first []int, changes ...api.Change) api.NameBook {
	return api.NameBook{First: first, Changes: changes}
}

func change(year int, from, to []int) api.Change {
	return api.Change{Year: year, From: from, To: to}
}

// copyOf returns a book in memory of its own.
func copyOf(b api.NameBook) api.NameBook {
	out := bookOf(slices.Clone(b.First))
	for _, x := range b.Changes {
		out.Changes = append(out.Changes, change(x.Year, slices.Clone(x.From), slices.Clone(x.To)))
	}
	return out
}

func sameBook(a, b api.NameBook) bool {
	return slices.Equal(a.First, b.First) && slices.EqualFunc(a.Changes, b.Changes, func(x, y api.Change) bool {
		return x.Year == y.Year && slices.Equal(x.From, y.From) && slices.Equal(x.To, y.To)
	})
}

func sameLists(a, b [][]int) bool { return slices.EqualFunc(a, b, slices.Equal) }

// upTo returns the numbers from one to another one.
func upTo(from, to int) []int {
	var l []int
	for n := from; n <= to; n++ {
		l = append(l, n)
	}
	return l
}

// mixed returns a book with n changes, each of which makes the names 1 and 2 each of the names 1 and 2, and with further names that no change touches. It has 2^(n+1) fates and one for each further name.
func mixed(n int, further ...int) api.NameBook {
	b := bookOf(append([]int{1, 2}, further...))
	for range n {
		b.Changes = append(b.Changes, change(0, []int{1, 2}, []int{1, 2}))
	}
	return b
}

// badBooks returns books that are not valid, each with the number that Check tells.
func badBooks() map[string]badBook {
	one := []int{1}
	with := func(x api.Change) badBook { return badBook{bookOf(upTo(1, 9), change(5, one, one), x), 2} }
	full := upTo(1, api.MaxNames)
	return map[string]badBook{
		"nothing":                       {api.NameBook{}, 0},
		"no first names":                {bookOf(nil, change(0, one, one)), 0},
		"too many first names":          {bookOf(upTo(1, api.MaxNames+1)), 0},
		"first names not in order":      {bookOf([]int{2, 1}), 0},
		"a first name twice":            {bookOf([]int{1, 1}), 0},
		"a first name 0":                {bookOf([]int{0, 1}), 0},
		"a first name below 0":          {bookOf([]int{-1, 1}), 0},
		"a first name too great":        {bookOf([]int{1, api.MaxID + 1}), 0},
		"first names, and a change":     {bookOf([]int{0, 1}, change(-1, nil, nil)), 0},
		"a Year below 0":                {bookOf(one, change(-1, one, one)), 1},
		"a Year too great":              {bookOf(one, change(api.MaxYear+1, one, one)), 1},
		"a Year less than before":       with(change(4, one, one)),
		"no From":                       with(change(5, nil, []int{10})),
		"From not in order":             with(change(5, []int{2, 1}, []int{10})),
		"From with a name twice":        with(change(5, []int{2, 2}, []int{10})),
		"From with none of the version": with(change(5, []int{2, 10}, []int{11})),
		"From with 0":                   with(change(5, []int{0, 2}, []int{10})),
		"From too long":                 {bookOf(full, change(0, upTo(1, api.MaxNames+1), one)), 1},
		"no To":                         with(change(5, one, nil)),
		"To not in order":               with(change(5, one, []int{11, 10})),
		"To with a name twice":          with(change(5, one, []int{10, 10})),
		"To with 0":                     with(change(5, one, []int{0, 10})),
		"To with a name below 0":        with(change(5, one, []int{-5})),
		"To with a name too great":      with(change(5, one, []int{10, api.MaxID + 1})),
		"To with one of the version":    with(change(5, one, []int{1, 9})),
		"To too long":                   {bookOf(full, change(0, full, upTo(1, api.MaxNames+1))), 1},
		"too many names behind":         {bookOf(full, change(0, one, []int{1, api.MaxID})), 1},
		"too many names behind a later": {bookOf(full, change(0, one, []int{500}), change(0, []int{2}, []int{2, 3000})), 2},
		"a name that went":              {bookOf([]int{1, 2}, change(0, one, []int{3}), change(0, one, []int{4})), 2},
		"two bad changes":               {bookOf(one, change(5, one, one), change(4, one, one), change(3, nil, nil)), 2},
		"a change behind a bad one":     {bookOf(one, change(5, nil, one), change(5, one, one)), 1},
	}
}

type badBook struct {
	book  api.NameBook
	tells int
}

// wrong tells what Check must return, read off the Terms.
func wrong(b api.NameBook) (api.Errno, int) {
	if len(b.Changes) > api.MaxChanges {
		return api.ErrLimit, 0
	}
	if !isList(b.First) {
		return api.ErrBook, 0
	}
	l, year := b.First, 0
	for v, x := range b.Changes {
		if x.Year < year || x.Year > api.MaxYear || !isList(x.From) || !isList(x.To) {
			return api.ErrBook, v + 1
		}
		for _, name := range x.From {
			if !slices.Contains(l, name) {
				return api.ErrBook, v + 1
			}
		}
		for _, name := range x.To {
			if slices.Contains(l, name) && !slices.Contains(x.From, name) {
				return api.ErrBook, v + 1
			}
		}
		l, year = next(l, x), x.Year
		if len(l) > api.MaxNames {
			return api.ErrBook, v + 1
		}
	}
	return api.OK, 0
}

func isList(l []int) bool {
	return len(l) > 0 && len(l) <= api.MaxNames && slices.IsSorted(l) &&
		len(slices.Compact(slices.Clone(l))) == len(l) && l[0] >= 1 && l[len(l)-1] <= api.MaxID
}

// next returns the version behind a change.
func next(l []int, x api.Change) []int {
	out := slices.DeleteFunc(slices.Clone(l), func(name int) bool { return slices.Contains(x.From, name) })
	out = append(out, x.To...)
	slices.Sort(out)
	return out
}

// versionsOf returns all versions of a book.
func versionsOf(b api.NameBook) [][]int {
	out := [][]int{b.First}
	for v, x := range b.Changes {
		out = append(out, next(out[v], x))
	}
	return out
}

// goes reports whether a fate may go from x to y with a change.
func goes(c api.Change, x, y int) bool {
	if slices.Contains(c.From, x) {
		return slices.Contains(c.To, y)
	}
	return x == y
}

// fatesOf returns all fates of a book, by trying all names of each version.
func fatesOf(b api.NameBook) [][]int {
	var out [][]int
	for v, l := range versionsOf(b) {
		if v == 0 {
			out = append(out, single(l)...)
			continue
		}
		var longer [][]int
		for _, fate := range out {
			for _, y := range l {
				if goes(b.Changes[v-1], fate[v-1], y) {
					longer = append(longer, append(slices.Clone(fate), y))
				}
			}
		}
		out = longer
	}
	slices.SortFunc(out, slices.Compare)
	return out
}

// single returns each of some numbers as a list.
func single(l []int) [][]int {
	var out [][]int
	for _, n := range l {
		out = append(out, []int{n})
	}
	return out
}

// through returns which of some fates have a name for a version.
func through(fates [][]int, v, name int) []int {
	var out []int
	for i, fate := range fates {
		if fate[v] == name {
			out = append(out, i)
		}
	}
	return out
}

// meaning returns what the fates through some names of v have for w.
func meaning(fates [][]int, v int, l []int, w int) []int {
	var out []int
	for _, fate := range fates {
		if slices.Contains(l, fate[v]) {
			out = append(out, fate[w])
		}
	}
	slices.Sort(out)
	return slices.Compact(out)
}

// relation returns how two sets of fates are related.
func relation(a, b []int) int {
	within := !slices.ContainsFunc(a, func(i int) bool { return !slices.Contains(b, i) })
	around := !slices.ContainsFunc(b, func(i int) bool { return !slices.Contains(a, i) })
	switch {
	case within && around:
		return api.RelSame
	case within:
		return api.RelWithin
	case around:
		return api.RelAround
	case slices.ContainsFunc(a, func(i int) bool { return slices.Contains(b, i) }):
		return api.RelMeets
	}
	return api.RelApart
}

func random() *rand.Rand { return rand.New(rand.NewPCG(3, 5)) }

// some returns some of a list's elements, in order; at least one, if it has any.
func some(r *rand.Rand, l []int) []int {
	if len(l) == 0 {
		return nil
	}
	out := []int{l[r.IntN(len(l))]}
	for range r.IntN(3) {
		out = append(out, l[r.IntN(len(l))])
	}
	slices.Sort(out)
	return slices.Compact(out)
}

// someChange returns a change that goes with a list, in a year from another one on.
func someChange(r *rand.Rand, l []int, year int) api.Change {
	from := some(r, l)
	free := slices.DeleteFunc(upTo(1, 12), func(name int) bool { return slices.Contains(l, name) && !slices.Contains(from, name) })
	return change(year+r.IntN(3), from, some(r, free))
}

// someBook returns a valid book of a few names and changes.
func someBook(r *rand.Rand) api.NameBook {
	b := bookOf(some(r, upTo(1, 12)))
	l, year := b.First, 0
	for range r.IntN(6) {
		x := someChange(r, l, year)
		b.Changes = append(b.Changes, x)
		l, year = next(l, x), x.Year
	}
	return b
}

// someBooks yields many valid books.
func someBooks() iter.Seq[api.NameBook] {
	return func(yield func(api.NameBook) bool) {
		r := random()
		for range 400 {
			if !yield(someBook(r)) {
				return
			}
		}
	}
}

// spoil writes over lists.
func spoil(lists ...[]int) {
	for _, l := range lists {
		for i := range l {
			l[i] = -7
		}
		_ = append(l, -7)
	}
}

// eachBook calls a test with many books and their fates.
func eachBook(t *testing.T, do func(r *rand.Rand, b api.NameBook, fates [][]int)) {
	t.Helper()
	r := random()
	do(r, sample(), fatesOf(sample()))
	for range 400 {
		b := someBook(r)
		do(r, b, fatesOf(b))
		if t.Failed() {
			t.Fatalf("the book was %v", b)
		}
	}
}

// eachPair calls a test with all pairs of versions of many books.
func eachPair(t *testing.T, do func(b api.NameBook, fates [][]int, v, w int)) {
	t.Helper()
	eachBook(t, func(_ *rand.Rand, b api.NameBook, fates [][]int) {
		for v := range len(b.Changes) + 1 {
			for w := range len(b.Changes) + 1 {
				do(b, fates, v, w)
			}
		}
	})
}

// wantList checks the result of a call that must not fail.
func wantList(t *testing.T, what string, got []int, e api.Errno, want []int) {
	t.Helper()
	if e != api.OK || !slices.Equal(got, want) {
		t.Errorf("%s: %v, error %d; want %v", what, got, e, want)
	}
}

func wantLists(t *testing.T, what string, got [][]int, e api.Errno, want [][]int) {
	t.Helper()
	if e != api.OK || !sameLists(got, want) {
		t.Errorf("%s: %v, error %d; want %v", what, got, e, want)
	}
}

func wantNumber(t *testing.T, what string, got int, e api.Errno, want int) {
	t.Helper()
	if e != api.OK || got != want {
		t.Errorf("%s: %v, error %d; want %v", what, got, e, want)
	}
}

// wantError checks that a call returns an error, and nothing else.
func wantError(t *testing.T, what string, got result, want api.Errno) {
	t.Helper()
	if got.e != want || !got.empty {
		t.Errorf("%s: error %d, other results empty: %v; want error %d alone", what, got.e, got.empty, want)
	}
}

// result is what a call returned: its error, and whether there was nothing else.
type result struct {
	e     api.Errno
	empty bool
}

func list(l []int, e api.Errno) result    { return result{e, len(l) == 0} }
func lists(l [][]int, e api.Errno) result { return result{e, len(l) == 0} }
func number(n int, e api.Errno) result    { return result{e, n == 0} }
func truth(is bool, e api.Errno) result   { return result{e, !is} }
func book(b api.NameBook, e api.Errno) result {
	return result{e, len(b.First) == 0 && len(b.Changes) == 0}
}

// byVersions are the functions that take a book, two versions and a name of each; a function that takes less leaves the rest.
func byVersions() map[string]func(b api.NameBook, v, x, w, y int) result {
	return map[string]func(b api.NameBook, v, x, w, y int) result{
		"Through": func(b api.NameBook, v, x, w, y int) result { return list(names.Through(b, v, x)) },
		"Means":   func(b api.NameBook, v, x, w, y int) result { return list(names.Means(b, v, x, w)) },
		"All":     func(b api.NameBook, v, x, w, y int) result { return list(names.All(b, v, []int{x}, w)) },
		"Relate":  func(b api.NameBook, v, x, w, y int) result { return number(names.Relate(b, v, x, w, y)) },
		"Exact":   func(b api.NameBook, v, x, w, y int) result { return number(names.Exact(b, v, x, w)) },
		"Chain":   func(b api.NameBook, v, x, w, y int) result { return list(names.Chain(b, v, x)) },
		"Names":   func(b api.NameBook, v, x, w, y int) result { return list(names.Names(b, v)) },
		"Has":     func(b api.NameBook, v, x, w, y int) result { return truth(names.Has(b, v, x)) },
		"Steps":   func(b api.NameBook, v, x, w, y int) result { return lists(names.Steps(b, v, w)) },
	}
}

// byBook are the other functions that take a book.
func byBook() map[string]func(b api.NameBook) result {
	return map[string]func(b api.NameBook) result{
		"Last":      func(b api.NameBook) result { return number(names.Last(b)) },
		"VersionOf": func(b api.NameBook) result { return number(names.VersionOf(b, -1)) },
		"Fates":     func(b api.NameBook) result { return lists(names.Fates(b)) },
		"Count":     func(b api.NameBook) result { return number(names.Count(b)) },
		"Apply":     func(b api.NameBook) result { return book(names.Apply(b, api.Change{})) },
		"Kind":      func(b api.NameBook) result { return number(names.Kind(b, -1)) },
	}
}
