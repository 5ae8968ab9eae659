package names_test

import (
	"math/rand/v2"
	"slices"
	"testing"

	"noctuary/api"
	"noctuary/names"
)

// P2.1 (N6 to N8): the chapter's example.
func TestFates(t *testing.T) {
	b := sample()
	l, e := names.Fates(b)
	wantLists(t, "Fates", l, e, [][]int{{1, 1, 1}, {2, 4, 3}, {2, 5, 5}, {3, 3, 3}})
	n, e := names.Count(b)
	wantNumber(t, "Count", n, e, 4)
	through, e := names.Through(b, 0, 2)
	wantList(t, "Through(0, 2)", through, e, []int{1, 2})
	through, e = names.Through(b, 2, 3)
	wantList(t, "Through(2, 3)", through, e, []int{1, 3})
}

// P2.1 (N6, N7): without changes, and with names that stay what they were.
func TestFatesOfSimpleBooks(t *testing.T) {
	l, e := names.Fates(bookOf([]int{4, 9}))
	wantLists(t, "without changes", l, e, [][]int{{4}, {9}})
	l, e = names.Fates(bookOf([]int{1, 2}, change(0, []int{1, 2}, []int{2, 3})))
	wantLists(t, "a name in From and To", l, e, [][]int{{1, 2}, {1, 3}, {2, 2}, {2, 3}})
	full := upTo(1, api.MaxNames)
	l, e = names.Fates(bookOf(full))
	wantLists(t, "as many names as may be", l, e, single(full))
}

// P2.1 (N6 to N8), P2.2: as the Terms say.
func TestFatesByTerms(t *testing.T) {
	eachBook(t, func(_ *rand.Rand, b api.NameBook, fates [][]int) {
		l, e := names.Fates(b)
		wantLists(t, "Fates", l, e, fates)
		n, e := names.Count(b)
		wantNumber(t, "Count", n, e, len(fates))
		for v, version := range versionsOf(b) {
			for _, name := range version {
				l, e := names.Through(b, v, name)
				wantList(t, "Through", l, e, through(fates, v, name))
			}
		}
	})
}

// P2.2: each fate goes with the changes, all are different and in order, and through each name there goes one.
func TestFatesAreDifferent(t *testing.T) {
	eachBook(t, func(_ *rand.Rand, b api.NameBook, _ [][]int) {
		l, _ := names.Fates(b)
		for i, fate := range l {
			if i > 0 && slices.Compare(l[i-1], fate) >= 0 {
				t.Errorf("%v stands before %v", l[i-1], fate)
			}
			if len(fate) != len(b.Changes)+1 || !slices.Contains(b.First, fate[0]) {
				t.Errorf("%v is no fate", fate)
			}
			for v, x := range b.Changes {
				if !goes(x, fate[v], fate[v+1]) {
					t.Errorf("%v does not go with the change %d", fate, v)
				}
			}
		}
		for v := range len(b.Changes) + 1 {
			version, _ := names.Names(b, v)
			for _, name := range version {
				if l, e := names.Through(b, v, name); e != api.OK || len(l) == 0 {
					t.Errorf("no fate goes through %d of version %d", name, v)
				}
			}
		}
	})
}

// P2.1 (N6 to N8): a book may have MaxFates fates; one with more is rich, also if its fates are too many to be counted.
func TestRichBooks(t *testing.T) {
	most := mixed(10)
	n, e := names.Count(most)
	wantNumber(t, "Count", n, e, api.MaxFates)
	l, e := names.Fates(most)
	wantLists(t, "Fates", l, e, fatesOf(most))
	all, e := names.Through(most, 10, 2)
	if e != api.OK || len(all) != api.MaxFates/2 {
		t.Errorf("Through: %d fates, error %d", len(all), e)
	}
	for what, b := range richBooks() {
		for what2, got := range map[string]result{"Fates": lists(names.Fates(b)), "Count": number(names.Count(b)), "Through": list(names.Through(b, 0, 1)),
			"Relate": number(names.Relate(b, 0, 1, 1, 1)), "Exact": number(names.Exact(b, 0, 1, 0))} {
			wantError(t, what+": "+what2, got, api.ErrLimit)
		}
	}
}

// richBooks returns rich books, of which some have a number of fates that does not fit into an int.
func richBooks() map[string]api.NameBook {
	full := upTo(1, api.MaxNames)
	wide := bookOf(full)
	for range api.MaxChanges {
		wide.Changes = append(wide.Changes, change(0, full, full))
	}
	return map[string]api.NameBook{
		"one more":                 mixed(10, 3),
		"twice as many":            mixed(11),
		"2 to the 31st":            mixed(30),
		"2 to the 32nd":            mixed(31),
		"2 to the 63rd":            mixed(62),
		"2 to the 64th":            mixed(63),
		"2 to the 64th, and three": mixed(63, 3, 4, 5),
		"2 to the 65th":            mixed(64),
		"wide":                     wide,
		"a product":                bookOf(full, change(0, full, upTo(1, 6))),
		"late":                     bookOf([]int{1}, change(0, []int{1}, upTo(1, 46)), change(1, upTo(1, 46), upTo(1, 45))),
	}
}

// P2.1 (R7).
func TestMemoryOfFates(t *testing.T) {
	b := sample()
	l, _ := names.Fates(b)
	want, _ := names.Fates(b)
	spoil(l[1])
	spoil(b.First, b.Changes[0].To, b.Changes[1].To)
	want[1] = l[1]
	if !sameLists(l, want) {
		t.Errorf("fates share memory: %v", l)
	}
	b = bookOf([]int{4, 9})
	l, _ = names.Fates(b)
	spoil(l...)
	all, _ := names.Through(b, 0, 4)
	spoil(all)
	if !sameBook(b, bookOf([]int{4, 9})) {
		t.Errorf("the book has memory of a result: %v", b)
	}
}
