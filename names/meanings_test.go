package names_test

import (
	"math/rand/v2"
	"slices"
	"testing"

	"noctuary/api"
	"noctuary/names"
)

// P2.1 (N9 to N13, N18): the chapter's examples.
func TestMeanings(t *testing.T) {
	b := sample()
	l, e := names.Means(b, 0, 2, 2)
	wantList(t, "Means(0, 2, 2)", l, e, []int{3, 5})
	l, e = names.Means(b, 2, 3, 0)
	wantList(t, "Means(2, 3, 0)", l, e, []int{2, 3})
	l, e = names.All(b, 2, []int{1, 3}, 0)
	wantList(t, "All(2, {1, 3}, 0)", l, e, []int{1, 2, 3})
	n, e := names.Relate(b, 0, 2, 2, 3)
	wantNumber(t, "Relate(0, 2, 2, 3)", n, e, api.RelMeets)
	n, e = names.Relate(b, 1, 5, 2, 5)
	wantNumber(t, "Relate(1, 5, 2, 5)", n, e, api.RelSame)
	n, e = names.Relate(b, 2, 5, 0, 2)
	wantNumber(t, "Relate(2, 5, 0, 2)", n, e, api.RelWithin)
	n, e = names.Relate(b, 0, 2, 2, 5)
	wantNumber(t, "Relate(0, 2, 2, 5)", n, e, api.RelAround)
	n, e = names.Relate(b, 0, 1, 2, 5)
	wantNumber(t, "Relate(0, 1, 2, 5)", n, e, api.RelApart)
	n, e = names.Exact(b, 1, 5, 2)
	wantNumber(t, "Exact(1, 5, 2)", n, e, 5)
	wantError(t, "Exact(0, 2, 2)", number(names.Exact(b, 0, 2, 2)), api.ErrNone)
	steps, e := names.Steps(b, 1, 2)
	wantLists(t, "Steps(1, 2)", steps, e, [][]int{{1}, {3}, {3}, {5}})
	l, e = names.Chain(b, 0, 2)
	wantList(t, "Chain(0, 2)", l, e, []int{0, 1})
	l, e = names.Chain(b, 0, 3)
	wantList(t, "Chain(0, 3)", l, e, []int{1})
}

// P2.1 (N9, N13), P2.2: what a name means is just what the fates through it have.
func TestMeansByFates(t *testing.T) {
	eachPair(t, func(b api.NameBook, fates [][]int, v, w int) {
		var want [][]int
		for _, name := range versionsOf(b)[v] {
			want = append(want, meaning(fates, v, []int{name}, w))
			l, e := names.Means(b, v, name, w)
			wantList(t, "Means", l, e, want[len(want)-1])
		}
		steps, e := names.Steps(b, v, w)
		wantLists(t, "Steps", steps, e, want)
	})
}

// P2.1 (N9): a name may come back, and then be another one.
func TestMeansOfANameThatComesBack(t *testing.T) {
	b := bookOf([]int{1, 2}, change(0, []int{1}, []int{3}), change(1, []int{2}, []int{1}), change(2, []int{1, 3}, []int{1, 2}))
	l, e := names.Means(b, 0, 1, 2)
	wantList(t, "the first one", l, e, []int{3})
	l, e = names.Means(b, 2, 1, 0)
	wantList(t, "the second one", l, e, []int{2})
	l, e = names.Means(b, 0, 1, 3)
	wantList(t, "with the last change", l, e, []int{1, 2})
	n, e := names.Exact(b, 0, 2, 2)
	wantNumber(t, "Exact", n, e, 1)
}

// P2.1 (N10).
func TestAll(t *testing.T) {
	eachBook(t, func(r *rand.Rand, b api.NameBook, fates [][]int) {
		versions := versionsOf(b)
		v, w := r.IntN(len(versions)), r.IntN(len(versions))
		for _, l := range [][]int{nil, {}, some(r, versions[v]), versions[v]} {
			got, e := names.All(b, v, l, w)
			wantList(t, "All", got, e, meaning(fates, v, l, w))
		}
	})
}

// P2.1 (N10): ErrArg comes before ErrName, and behind ErrBook and ErrVersion.
func TestErrorsOfAll(t *testing.T) {
	b := sample()
	for _, l := range [][]int{{1, 1}, {3, 2}, {1, 3, 2}, {9, 9}, {9, 8}, {0, -1}} {
		wantError(t, "not increasing", list(names.All(b, 0, l, 2)), api.ErrArg)
		wantError(t, "of no version", list(names.All(b, 3, l, 2)), api.ErrVersion)
		wantError(t, "at no version", list(names.All(b, 0, l, -1)), api.ErrVersion)
		wantError(t, "of no book", list(names.All(api.NameBook{}, 3, l, 2)), api.ErrBook)
	}
	for _, l := range [][]int{{4}, {1, 4}, {0, 1}, {-1, 1}, {1, 2, 3, api.MaxID + 1}, upTo(1, api.MaxNames+1)} {
		wantError(t, "with no name", list(names.All(b, 0, l, 2)), api.ErrName)
	}
}

// P2.1 (N11): by the sets of fates, as the Terms say.
func TestRelateByFates(t *testing.T) {
	seen := map[int]int{}
	eachPair(t, func(b api.NameBook, fates [][]int, v, w int) {
		versions := versionsOf(b)
		for _, x := range versions[v] {
			for _, y := range versions[w] {
				want := relation(through(fates, v, x), through(fates, w, y))
				got, e := names.Relate(b, v, x, w, y)
				wantNumber(t, "Relate", got, e, want)
				seen[want]++
			}
		}
	})
	for r := api.RelApart; r <= api.RelMeets; r++ {
		if seen[r] < 100 {
			t.Errorf("the relation %d was seen %d times", r, seen[r])
		}
	}
}

// P2.5.
func TestRelationsBothWays(t *testing.T) {
	opposite := []int{api.RelApart, api.RelSame, api.RelAround, api.RelWithin, api.RelMeets}
	eachPair(t, func(b api.NameBook, _ [][]int, v, w int) {
		versions := versionsOf(b)
		for _, x := range versions[v] {
			means, _ := names.Means(b, v, x, w)
			for _, y := range versions[w] {
				forth, _ := names.Relate(b, v, x, w, y)
				back, e := names.Relate(b, w, y, v, x)
				wantNumber(t, "Relate in the opposite order", back, e, opposite[forth])
				if slices.Contains(means, y) != (forth != api.RelApart) {
					t.Errorf("%d means %v, but the relation to %d is %d", x, means, y, forth)
				}
				within := forth == api.RelSame || forth == api.RelWithin
				if within != slices.Equal(means, []int{y}) {
					t.Errorf("%d means %v, but the relation to %d is %d", x, means, y, forth)
				}
			}
		}
	})
}

// P2.1 (N12).
func TestExact(t *testing.T) {
	found, none := 0, 0
	eachPair(t, func(b api.NameBook, fates [][]int, v, w int) {
		versions := versionsOf(b)
		for _, x := range versions[v] {
			want := 0
			for _, y := range versions[w] {
				if slices.Equal(through(fates, v, x), through(fates, w, y)) {
					want = y
				}
			}
			if want == 0 {
				none++
				wantError(t, "Exact", number(names.Exact(b, v, x, w)), api.ErrNone)
				continue
			}
			found++
			n, e := names.Exact(b, v, x, w)
			wantNumber(t, "Exact", n, e, want)
		}
	})
	if found < 100 || none < 100 {
		t.Errorf("%d names had an exact one, %d had none", found, none)
	}
}

// P2.6: Exact is transitive, and leads back.
func TestExactIsTransitive(t *testing.T) {
	eachBook(t, func(r *rand.Rand, b api.NameBook, _ [][]int) {
		versions := versionsOf(b)
		for range 20 {
			v, w, u := r.IntN(len(versions)), r.IntN(len(versions)), r.IntN(len(versions))
			x := versions[v][r.IntN(len(versions[v]))]
			y, e := names.Exact(b, v, x, w)
			if e != api.OK {
				continue
			}
			back, e := names.Exact(b, w, y, v)
			wantNumber(t, "Exact back", back, e, x)
			z, e := names.Exact(b, w, y, u)
			if e != api.OK {
				wantError(t, "Exact of what has none", number(names.Exact(b, v, x, u)), api.ErrNone)
				continue
			}
			n, e := names.Exact(b, v, x, u)
			wantNumber(t, "Exact at once", n, e, z)
		}
	})
}

// P2.6: a name that no change touches between two versions is itself.
func TestExactOfUntouchedNames(t *testing.T) {
	untouched := 0
	eachPair(t, func(b api.NameBook, _ [][]int, v, w int) {
		for _, x := range versionsOf(b)[v] {
			if touches(b.Changes[min(v, w):max(v, w)], x) {
				continue
			}
			untouched++
			n, e := names.Exact(b, v, x, w)
			wantNumber(t, "Exact", n, e, x)
		}
	})
	if untouched < 100 {
		t.Errorf("%d names were not touched", untouched)
	}
}

func touches(changes []api.Change, name int) bool {
	return slices.ContainsFunc(changes, func(x api.Change) bool {
		return slices.Contains(x.From, name) || slices.Contains(x.To, name)
	})
}

// P2.1 (N18), P2.8.
func TestChain(t *testing.T) {
	eachBook(t, func(_ *rand.Rand, b api.NameBook, fates [][]int) {
		for v, version := range versionsOf(b) {
			for _, name := range version {
				var want []int
				for i, x := range b.Changes {
					if slices.ContainsFunc(fates, func(fate []int) bool { return fate[v] == name && slices.Contains(x.From, fate[i]) }) {
						want = append(want, i)
					}
				}
				l, e := names.Chain(b, v, name)
				wantList(t, "Chain", l, e, want)
			}
		}
	})
}

// P2.7.
func TestApplyChangesNothingEarlier(t *testing.T) {
	r := random()
	for range 300 {
		b := someBook(r)
		versions := versionsOf(b)
		last := len(b.Changes)
		year := 0
		if last > 0 {
			year = b.Changes[last-1].Year
		}
		x := someChange(r, versions[last], year)
		longer, e := names.Apply(b, x)
		if e != api.OK {
			t.Fatalf("Apply(%v, %v): error %d", b, x, e)
		}
		for v, version := range versions {
			l, e := names.Names(longer, v)
			wantList(t, "an earlier version", l, e, version)
			for w := range versions {
				want, _ := names.Steps(b, v, w)
				got, e := names.Steps(longer, v, w)
				wantLists(t, "what names mean at an earlier version", got, e, want)
			}
			for _, name := range version {
				means, _ := names.Means(b, v, name, last)
				var want []int
				for _, y := range means {
					for _, z := range next(versions[last], x) {
						if goes(x, y, z) {
							want = append(want, z)
						}
					}
				}
				slices.Sort(want)
				got, e := names.Means(longer, v, name, last+1)
				wantList(t, "what a name means at the new version", got, e, slices.Compact(want))
			}
		}
	}
}

// P2.1 (N9, N10, N13, N18): of rich books too.
func TestMeaningsOfRichBooks(t *testing.T) {
	b := mixed(api.MaxChanges, 7)
	l, e := names.Means(b, 0, 1, api.MaxChanges)
	wantList(t, "Means", l, e, []int{1, 2})
	l, e = names.Means(b, api.MaxChanges, 7, 0)
	wantList(t, "Means of a name that is not touched", l, e, []int{7})
	l, e = names.All(b, 3, []int{2, 7}, 60)
	wantList(t, "All", l, e, []int{1, 2, 7})
	steps, e := names.Steps(b, api.MaxChanges, 0)
	wantLists(t, "Steps", steps, e, [][]int{{1, 2}, {1, 2}, {7}})
	l, e = names.Chain(b, 9, 1)
	wantList(t, "Chain", l, e, upTo(0, api.MaxChanges-1))
	l, e = names.Chain(b, 9, 7)
	wantList(t, "Chain of a name that is not touched", l, e, nil)
	l, e = names.Names(b, 50)
	wantList(t, "Names", l, e, []int{1, 2, 7})
}

// P2.1: with as many names and changes as there may be.
func TestMeaningsOfTheGreatestBook(t *testing.T) {
	b := richBooks()["wide"]
	steps, e := names.Steps(b, 0, api.MaxChanges)
	if e != api.OK || len(steps) != api.MaxNames {
		t.Fatalf("Steps: %d lists, error %d", len(steps), e)
	}
	for _, l := range steps {
		wantList(t, "Steps", l, api.OK, b.First)
	}
	l, e := names.Chain(b, 0, 1)
	wantList(t, "Chain", l, e, upTo(0, api.MaxChanges-1))
}

// P2.1 (R7).
func TestMemoryOfMeanings(t *testing.T) {
	b := bookOf([]int{1, 2, 3}, change(0, []int{1, 2}, []int{4, 5}))
	want := copyOf(b)
	for v := range 2 {
		for w := range 2 {
			steps, _ := names.Steps(b, v, w)
			before, _ := names.Steps(b, v, w)
			for i := range steps {
				spoil(steps[i])
				if !sameLists(steps[i+1:], before[i+1:]) {
					t.Fatalf("Steps(%d, %d): the lists share memory", v, w)
				}
			}
			l := []int{1, 2, 3}
			if v == 1 {
				l = []int{3, 4, 5}
			}
			arg := slices.Clone(l)
			all, _ := names.All(b, v, l, w)
			spoil(all)
			means, _ := names.Means(b, v, l[0], w)
			spoil(means)
			if !slices.Equal(l, arg) || !sameBook(b, want) {
				t.Fatalf("of %d at %d: an argument has memory of a result: %v %v", v, w, l, b)
			}
		}
	}
	chain, _ := names.Chain(b, 0, 1)
	spoil(chain)
	if !sameBook(b, want) {
		t.Errorf("Chain: the book has memory of the result")
	}
}
