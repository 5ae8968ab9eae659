package names_test

import (
	"slices"
	"strconv"
	"testing"

	"noctuary/api"
	"noctuary/names"
)

// P2.1 (N1).
func TestCheck(t *testing.T) {
	full := upTo(1, api.MaxNames)
	good := map[string]api.NameBook{
		"the sample":               sample(),
		"one name":                 bookOf([]int{api.MaxID}),
		"the least name":           bookOf([]int{1}),
		"as many first names":      bookOf(full),
		"the last Year":            bookOf([]int{1}, change(api.MaxYear, []int{1}, []int{2})),
		"Years that are equal":     bookOf([]int{1}, change(0, []int{1}, []int{2}), change(0, []int{2}, []int{1})),
		"a change of nothing":      bookOf([]int{1}, change(3, []int{1}, []int{1})),
		"a name in From and To":    bookOf([]int{1, 2}, change(3, []int{1, 2}, []int{2, 3})),
		"a name that went before":  bookOf([]int{1, 2}, change(3, []int{1}, []int{3}), change(4, []int{3}, []int{1})),
		"all names at once":        bookOf(full, change(3, full, upTo(401, 800))),
		"as many names as before":  bookOf(full, change(3, []int{1, 2}, []int{1, 401})),
		"as many names as may be":  bookOf([]int{1}, change(3, []int{1}, full)),
		"as many changes":          mixed(api.MaxChanges),
		"a rich book":              mixed(20),
		"the greatest name coming": bookOf([]int{1}, change(3, []int{1}, []int{api.MaxID})),
	}
	for what, b := range good {
		if e, n := names.Check(b); e != api.OK || n != 0 {
			t.Errorf("%s: %d %d", what, e, n)
		}
	}
	for what, bad := range badBooks() {
		if e, n := names.Check(bad.book); e != api.ErrBook || n != bad.tells {
			t.Errorf("%s: %d %d; want ErrBook and %d", what, e, n, bad.tells)
		}
	}
}

// P2.1 (N1): ErrLimit comes before ErrBook, but only in Check.
func TestCheckOfTooManyChanges(t *testing.T) {
	long := mixed(api.MaxChanges + 1)
	bad := copyOf(long)
	bad.First = nil
	for _, b := range []api.NameBook{long, bad} {
		if e, n := names.Check(b); e != api.ErrLimit || n != 0 {
			t.Errorf("Check: %d %d", e, n)
		}
		if n, e := names.Last(b); e != api.ErrBook || n != 0 {
			t.Errorf("Last: %d %d", n, e)
		}
		if c, e := names.Apply(b, change(0, []int{1}, []int{1})); e != api.ErrBook || len(c.First) != 0 {
			t.Errorf("Apply: %v %d", c, e)
		}
	}
}

// P2.1 (N1): of many books that are nearly valid.
func TestCheckByTerms(t *testing.T) {
	r, valid := random(), 0
	for range 20000 {
		b := someBook(r)
		lists := []*[]int{&b.First}
		for i := range b.Changes {
			lists = append(lists, &b.Changes[i].From, &b.Changes[i].To)
		}
		switch l := lists[r.IntN(len(lists))]; r.IntN(4) {
		case 0:
			(*l)[r.IntN(len(*l))] = r.IntN(13)
		case 1:
			*l = append(*l, r.IntN(13))
		case 2:
			*l = (*l)[1:]
		case 3:
			if len(b.Changes) > 0 {
				b.Changes[r.IntN(len(b.Changes))].Year = r.IntN(8) - 1
			}
		}
		e, n := names.Check(b)
		if wantE, wantN := wrong(b); e != wantE || n != wantN {
			t.Fatalf("Check(%v): %d %d; want %d %d", b, e, n, wantE, wantN)
		}
		if e == api.OK {
			valid++
		}
	}
	if valid < 1000 || valid > 19000 {
		t.Errorf("%d books were valid", valid)
	}
}

// P2.1: ErrBook comes before all other errors.
func TestErrBook(t *testing.T) {
	books := []api.NameBook{mixed(api.MaxChanges + 1)}
	for _, bad := range badBooks() {
		books = append(books, bad.book)
	}
	for _, b := range books {
		for what, of := range byVersions() {
			wantError(t, what, of(b, -1, 0, -1, 0), api.ErrBook)
			wantError(t, what, of(b, 0, 1, 0, 1), api.ErrBook)
		}
		for what, of := range byBook() {
			wantError(t, what, of(b), api.ErrBook)
		}
	}
}

// P2.1: then ErrVersion, then ErrName, and then ErrLimit.
func TestErrorOrder(t *testing.T) {
	rich := mixed(11)
	huge := int(^uint(0) >> 1)
	for _, bad := range []int{-1, 12, huge, -huge - 1} {
		for what, of := range byVersions() {
			wantError(t, what, of(rich, bad, 0, 0, 0), api.ErrVersion)
		}
		for _, what := range []string{"Means", "All", "Relate", "Exact", "Steps"} {
			wantError(t, what, byVersions()[what](rich, 0, 0, bad, 0), api.ErrVersion)
		}
	}
	for _, bad := range []int{0, 3, -1, huge, -huge - 1} {
		for _, what := range []string{"Through", "Means", "All", "Relate", "Exact", "Chain"} {
			wantError(t, what, byVersions()[what](rich, 0, bad, 11, 1), api.ErrName)
		}
		wantError(t, "Relate", byVersions()["Relate"](rich, 0, 1, 11, bad), api.ErrName)
	}
	for _, what := range []string{"Through", "Relate", "Exact"} {
		wantError(t, what, byVersions()[what](rich, 0, 1, 11, 1), api.ErrLimit)
	}
	wantError(t, "Fates", byBook()["Fates"](rich), api.ErrLimit)
	wantError(t, "Count", byBook()["Count"](rich), api.ErrLimit)
	wantError(t, "VersionOf", byBook()["VersionOf"](rich), api.ErrArg)
	wantError(t, "Kind", byBook()["Kind"](rich), api.ErrArg)
	wantError(t, "Apply", byBook()["Apply"](rich), api.ErrArg)
}

// P2.1 (N2 to N5).
func TestVersions(t *testing.T) {
	b := sample()
	last, e := names.Last(b)
	wantNumber(t, "Last", last, e, 2)
	for v, want := range [][]int{{1, 2, 3}, {1, 3, 4, 5}, {1, 3, 5}} {
		l, e := names.Names(b, v)
		wantList(t, "Names("+strconv.Itoa(v)+")", l, e, want)
	}
	last, e = names.Last(bookOf([]int{1}))
	wantNumber(t, "Last without changes", last, e, 0)
	last, e = names.Last(mixed(api.MaxChanges))
	wantNumber(t, "Last", last, e, api.MaxChanges)
}

// P2.1 (N2, N4, N5), P2.2: as the Terms say.
func TestVersionsByTerms(t *testing.T) {
	for b := range someBooks() {
		versions := versionsOf(b)
		last, e := names.Last(b)
		wantNumber(t, "Last", last, e, len(versions)-1)
		for v, want := range versions {
			l, e := names.Names(b, v)
			wantList(t, "Names", l, e, want)
			for name := -1; name < 15; name++ {
				is, e := names.Has(b, v, name)
				if e != api.OK || is != slices.Contains(want, name) {
					t.Fatalf("Has(%v, %d, %d): %v, error %d", b, v, name, is, e)
				}
			}
		}
	}
}

// P2.1 (N5): any number may be asked for.
func TestHasOfAnyNumber(t *testing.T) {
	huge := int(^uint(0) >> 1)
	for _, name := range []int{0, -1, 2, api.MaxID + 1, huge, -huge - 1} {
		if is, e := names.Has(sample(), 1, name); e != api.OK || is {
			t.Errorf("Has(1, %d): %v, error %d", name, is, e)
		}
	}
}

// P2.1 (N3).
func TestVersionOf(t *testing.T) {
	one := []int{1}
	b := bookOf(one, change(0, one, one), change(5, one, one), change(5, one, one), change(8, one, one), change(api.MaxYear, one, one))
	for year, want := range map[int]int{0: 1, 1: 1, 4: 1, 5: 3, 6: 3, 7: 3, 8: 4, 272: 4, api.MaxYear: 5} {
		v, e := names.VersionOf(b, year)
		wantNumber(t, "VersionOf("+strconv.Itoa(year)+")", v, e, want)
	}
	for year, want := range map[int]int{0: 0, 4: 0, 5: 1, 7: 1, 8: 2, 200: 2, api.MaxYear: 2} {
		v, e := names.VersionOf(sample(), year)
		wantNumber(t, "VersionOf("+strconv.Itoa(year)+")", v, e, want)
	}
	v, e := names.VersionOf(bookOf(one), api.MaxYear)
	wantNumber(t, "VersionOf without changes", v, e, 0)
	huge := int(^uint(0) >> 1)
	for _, year := range []int{-1, api.MaxYear + 1, huge, -huge - 1} {
		if v, e := names.VersionOf(b, year); e != api.ErrArg || v != 0 {
			t.Errorf("VersionOf(%d): %d, error %d", year, v, e)
		}
	}
}

// P2.1 (N16).
func TestApply(t *testing.T) {
	b := sample()
	x := change(8, []int{1, 5}, []int{1, 4})
	longer, e := names.Apply(b, x)
	want := copyOf(b)
	want.Changes = append(want.Changes, x)
	if e != api.OK || !sameBook(longer, want) {
		t.Errorf("Apply: %v, error %d; want %v", longer, e, want)
	}
	bad := map[string]api.Change{
		"a Year less than before": change(7, []int{1}, []int{6}),
		"a Year too great":        change(api.MaxYear+1, []int{1}, []int{6}),
		"no names":                change(9, nil, nil),
		"no From":                 change(9, nil, []int{6}),
		"no To":                   change(9, []int{1}, nil),
		"a name that went":        change(9, []int{4}, []int{6}),
		"a name that is there":    change(9, []int{1}, []int{3}),
		"From not in order":       change(9, []int{3, 1}, []int{6}),
		"To not in order":         change(9, []int{1}, []int{7, 6}),
		"no name":                 change(9, []int{1}, []int{api.MaxID + 1}),
		"too many names":          change(9, []int{1}, upTo(100, 100+api.MaxNames-2)),
		"more than are names":     change(9, []int{1}, upTo(100, 100+api.MaxNames)),
	}
	for what, x := range bad {
		if longer, e := names.Apply(b, x); e != api.ErrArg || !sameBook(longer, api.NameBook{}) {
			t.Errorf("%s: %v, error %d", what, longer, e)
		}
	}
	if _, e := names.Apply(b, change(9, []int{1}, upTo(100, 100+api.MaxNames-3))); e != api.OK {
		t.Errorf("as many names as may be: error %d", e)
	}
}

// P2.1 (N16): ErrLimit comes before ErrArg.
func TestApplyToManyChanges(t *testing.T) {
	x := change(0, []int{1}, []int{3})
	longer, e := names.Apply(mixed(api.MaxChanges-1), x)
	if e != api.OK || len(longer.Changes) != api.MaxChanges {
		t.Fatalf("the last change that there may be: %d changes, error %d", len(longer.Changes), e)
	}
	for _, x := range []api.Change{change(0, []int{3}, []int{1}), {}} {
		if c, e := names.Apply(longer, x); e != api.ErrLimit || !sameBook(c, api.NameBook{}) {
			t.Errorf("a further change: %v, error %d", c, e)
		}
	}
}

// P2.1 (N16): a change can be applied if and only if the book is valid with it.
func TestApplyByCheck(t *testing.T) {
	r, applied := random(), 0
	for range 5000 {
		b := someBook(r)
		x := change(r.IntN(8), some(r, upTo(1, 12)), some(r, upTo(1, 12)))
		want := copyOf(b)
		want.Changes = append(want.Changes, x)
		longer, e := names.Apply(b, x)
		if wrongE, _ := wrong(want); wrongE != api.OK {
			want = api.NameBook{}
			if e != api.ErrArg {
				t.Fatalf("Apply(%v, %v): error %d", b, x, e)
			}
		} else {
			applied++
		}
		if !sameBook(longer, want) || e != api.OK && e != api.ErrArg {
			t.Fatalf("Apply(%v, %v): %v, error %d", b, x, longer, e)
		}
	}
	if applied < 100 || applied > 4900 {
		t.Errorf("%d changes were applied", applied)
	}
}

// P2.1 (N17).
func TestKind(t *testing.T) {
	b := bookOf([]int{1, 2, 3},
		change(0, []int{1}, []int{1}),
		change(0, []int{1}, []int{4}),
		change(0, []int{2}, []int{5, 6}),
		change(0, []int{5, 6}, []int{6}),
		change(0, []int{3, 4, 6}, []int{2}),
		change(0, []int{2}, []int{2, 3, 4}),
		change(0, []int{2, 3}, []int{3, 5}),
		change(0, []int{3, 4}, []int{7, 8, 9}),
	)
	for i, want := range []int{1, 1, 2, 3, 3, 2, 4, 4} {
		k, e := names.Kind(b, i)
		wantNumber(t, "Kind("+strconv.Itoa(i)+")", k, e, want)
	}
	huge := int(^uint(0) >> 1)
	for _, i := range []int{-1, 8, huge, -huge - 1} {
		if k, e := names.Kind(b, i); e != api.ErrArg || k != 0 {
			t.Errorf("Kind(%d): %d, error %d", i, k, e)
		}
	}
	if k, e := names.Kind(bookOf([]int{1}), 0); e != api.ErrArg || k != 0 {
		t.Errorf("Kind without changes: %d, error %d", k, e)
	}
}

// P2.1: results are new memory, and arguments are not changed (R7).
func TestMemoryOfBooks(t *testing.T) {
	b, x := sample(), change(9, []int{1}, []int{6, 7})
	longer, _ := names.Apply(b, x)
	want := copyOf(longer)
	names.Check(b)
	spoil(b.First, x.From, x.To)
	for _, c := range b.Changes {
		spoil(c.From, c.To)
	}
	if !sameBook(longer, want) {
		t.Errorf("Apply: %v has memory of an argument", longer)
	}
	b = sample()
	for v := range 3 {
		l, _ := names.Names(b, v)
		spoil(l)
		longer, _ := names.Apply(b, change(9, []int{1}, []int{6, 7}))
		spoil(longer.First, longer.Changes[0].From, longer.Changes[1].To)
		if !sameBook(b, sample()) {
			t.Fatalf("the book has memory of a result: %v", b)
		}
	}
}
