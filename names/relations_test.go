package names_test

import (
	"math/rand/v2"
	"slices"
	"testing"

	"noctuary/api"
	"noctuary/names"
)

// P2.1 (N14, N15): the chapter's example, and one that is composed.
func TestRelations(t *testing.T) {
	b := sample()
	first, _ := names.Steps(b, 0, 1)
	second, _ := names.Steps(b, 1, 2)
	l, e := names.Turn(second, []int{1, 3, 4, 5}, []int{1, 3, 5})
	wantLists(t, "Turn", l, e, [][]int{{1}, {3, 4}, {5}})
	l, e = names.Compose(first, second, []int{1, 3, 4, 5})
	wantLists(t, "Compose", l, e, [][]int{{1}, {3, 5}, {3}})
}

// P2.1 (N14): relations may have empty lists, and b names that are not among names.
func TestComposeAnyRelations(t *testing.T) {
	names1 := []int{2, 5, 9}
	b := [][]int{{1, 70, api.MaxID}, nil, {2, 70, 71}}
	a := [][]int{{2, 9}, {}, {5}, {2, 5, 9}, {9}, {2}}
	l, e := names.Compose(a, b, names1)
	wantLists(t, "Compose", l, e, [][]int{{1, 2, 70, 71, api.MaxID}, {}, {}, {1, 2, 70, 71, api.MaxID}, {2, 70, 71}, {1, 70, api.MaxID}})
	l, e = names.Compose(nil, b, names1)
	wantLists(t, "of no lists", l, e, nil)
	l, e = names.Compose([][]int{nil, {}}, nil, nil)
	wantLists(t, "of no names", l, e, [][]int{{}, {}})
}

// P2.1 (N14): by trying all elements.
func TestComposeByElements(t *testing.T) {
	r := random()
	for range 2000 {
		middle := some(r, upTo(1, 100))
		a, b := someRelation(r, r.IntN(6), middle), someRelation(r, len(middle), upTo(1, 200))
		var want [][]int
		for _, l := range a {
			var all []int
			for k, name := range middle {
				if slices.Contains(l, name) {
					all = append(all, b[k]...)
				}
			}
			slices.Sort(all)
			want = append(want, slices.Compact(all))
		}
		got, e := names.Compose(a, b, middle)
		wantLists(t, "Compose", got, e, want)
	}
}

// someRelation returns n lists of some of the elements of a list; some of them are empty.
func someRelation(r *rand.Rand, n int, of []int) [][]int {
	var out [][]int
	for range n {
		out = append(out, some(r, of[:r.IntN(len(of)+1)]))
	}
	return out
}

// P2.1 (N14).
func TestComposeErrors(t *testing.T) {
	good := [][]int{{1}, {2}}
	long := upTo(1, api.MaxNames+1)
	bad := map[string]result{
		"names not in order":          lists(names.Compose(good, good, []int{2, 1})),
		"a name twice":                lists(names.Compose([][]int{{1}}, good, []int{1, 1})),
		"a name 0":                    lists(names.Compose([][]int{{1}}, good, []int{0, 1})),
		"a name too great":            lists(names.Compose([][]int{{1}}, good, []int{1, api.MaxID + 1})),
		"too many names":              lists(names.Compose(good, make([][]int, len(long)), long)),
		"b with too few lists":        lists(names.Compose([][]int{{1}}, good[:1], []int{1, 2})),
		"b with too many lists":       lists(names.Compose([][]int{{1}}, good, []int{1})),
		"b with lists for no names":   lists(names.Compose(nil, good, nil)),
		"a with too many lists":       lists(names.Compose(make([][]int, api.MaxNames+1), good, []int{1, 2})),
		"a list of a not in order":    lists(names.Compose([][]int{{2, 1}}, good, []int{1, 2})),
		"a list of a with one twice":  lists(names.Compose([][]int{{1}, {2, 2}}, good, []int{1, 2})),
		"a list of a with another":    lists(names.Compose([][]int{{1, 3}}, good, []int{1, 2})),
		"a list of a with 0":          lists(names.Compose([][]int{{0, 1}}, good, []int{1, 2})),
		"a with a name, but no names": lists(names.Compose([][]int{{1}}, nil, nil)),
		"a list of b not in order":    lists(names.Compose(good, [][]int{{1}, {2, 1}}, []int{1, 2})),
		"a list of b with one twice":  lists(names.Compose(good, [][]int{{1, 1}, {2}}, []int{1, 2})),
		"a list of b with 0":          lists(names.Compose(good, [][]int{{1}, {0, 2}}, []int{1, 2})),
		"a list of b below 0":         lists(names.Compose(good, [][]int{{1}, {-2, 2}}, []int{1, 2})),
		"a list of b too great":       lists(names.Compose(good, [][]int{{1}, {2, api.MaxID + 1}}, []int{1, 2})),
		"a list of b that is not met": lists(names.Compose(good[:1], [][]int{{1}, {2, 1}}, []int{1, 2})),
	}
	for what, got := range bad {
		wantError(t, what, got, api.ErrArg)
	}
}

// P2.1 (N14): with as many names as there may be, and the longest lists.
func TestComposeTheGreatest(t *testing.T) {
	full, all := upTo(1, api.MaxNames), upTo(1, api.MaxID)
	a, b := make([][]int, api.MaxNames), make([][]int, api.MaxNames)
	for i := range a {
		a[i], b[i] = full, full
	}
	got, e := names.Compose(a, b, full)
	wantLists(t, "Compose", got, e, a)
	b[399] = all
	got, e = names.Compose(a[:2], b, full)
	wantLists(t, "Compose", got, e, [][]int{all, all})
}

// P2.1 (N15).
func TestTurnAnyRelations(t *testing.T) {
	l, e := names.Turn([][]int{{3, 8}, nil, {8}, {1, 3, 8}}, []int{2, 4, 6, api.MaxID}, []int{1, 3, 5, 8})
	wantLists(t, "Turn", l, e, [][]int{{api.MaxID}, {2, api.MaxID}, {}, {2, 6, api.MaxID}})
	l, e = names.Turn(nil, nil, []int{1, 2})
	wantLists(t, "from nothing", l, e, [][]int{{}, {}})
	l, e = names.Turn([][]int{{}, {}}, []int{1, 2}, nil)
	wantLists(t, "to nothing", l, e, nil)
	full := upTo(1, api.MaxNames)
	a := make([][]int, api.MaxNames)
	for i := range a {
		a[i] = full
	}
	l, e = names.Turn(a, full, full)
	wantLists(t, "the greatest", l, e, a)
}

// P2.1 (N15).
func TestTurnErrors(t *testing.T) {
	good, two := [][]int{{1}, {1, 2}}, []int{1, 2}
	long := upTo(1, api.MaxNames+1)
	bad := map[string]result{
		"from not in order":          lists(names.Turn(good, []int{2, 1}, two)),
		"from with one twice":        lists(names.Turn(good, []int{1, 1}, two)),
		"from with 0":                lists(names.Turn(good, []int{0, 1}, two)),
		"from with one too great":    lists(names.Turn(good, []int{1, api.MaxID + 1}, two)),
		"from too long":              lists(names.Turn(make([][]int, len(long)), long, two)),
		"to not in order":            lists(names.Turn(good, two, []int{2, 1})),
		"to with one twice":          lists(names.Turn(good, two, []int{1, 2, 2})),
		"to with 0":                  lists(names.Turn(good, two, []int{0, 1, 2})),
		"to with one too great":      lists(names.Turn(good, two, []int{1, 2, api.MaxID + 1})),
		"to too long":                lists(names.Turn(good, two, long)),
		"too few lists":              lists(names.Turn(good[:1], two, two)),
		"too many lists":             lists(names.Turn(good, []int{1}, two)),
		"lists from nothing":         lists(names.Turn(good, nil, two)),
		"a list not in order":        lists(names.Turn([][]int{{1}, {2, 1}}, two, two)),
		"a list with one twice":      lists(names.Turn([][]int{{2, 2}, {1}}, two, two)),
		"a list with another":        lists(names.Turn([][]int{{1, 3}, {1}}, two, two)),
		"a list with 0":              lists(names.Turn([][]int{{0, 1}, {1}}, two, two)),
		"a list, but to has no name": lists(names.Turn(good, two, nil)),
	}
	for what, got := range bad {
		wantError(t, what, got, api.ErrArg)
	}
}

// P2.3.
func TestComposition(t *testing.T) {
	more := 0
	eachBook(t, func(r *rand.Rand, b api.NameBook, _ [][]int) {
		last := len(b.Changes)
		for range 10 {
			v, w, u := r.IntN(last+1), r.IntN(last+1), r.IntN(last+1)
			first, _ := names.Steps(b, v, w)
			second, _ := names.Steps(b, w, u)
			middle, _ := names.Names(b, w)
			want, _ := names.Steps(b, v, u)
			got, e := names.Compose(first, second, middle)
			if v <= w && w <= u || u <= w && w <= v {
				wantLists(t, "Compose", got, e, want)
				continue
			}
			for i, l := range want {
				if e != api.OK || slices.ContainsFunc(l, func(name int) bool { return !slices.Contains(got[i], name) }) {
					t.Errorf("Compose by way of %d: %v, error %d; the steps from %d to %d are %v", w, got, e, v, u, want)
				}
			}
			if e == api.OK && !sameLists(got, want) {
				more++
			}
		}
	})
	if more < 10 {
		t.Errorf("%d compositions had more than the steps", more)
	}
}

// P2.4.
func TestTheOtherWayRound(t *testing.T) {
	eachPair(t, func(b api.NameBook, _ [][]int, v, w int) {
		steps, _ := names.Steps(b, v, w)
		versions := versionsOf(b)
		want, _ := names.Steps(b, w, v)
		turned, e := names.Turn(steps, versions[v], versions[w])
		wantLists(t, "Turn", turned, e, want)
	})
	r := random()
	for range 1000 {
		from, to := some(r, upTo(1, 50)), some(r, upTo(1, 50))
		a := someRelation(r, len(from), to)
		turned, e := names.Turn(a, from, to)
		if e != api.OK {
			t.Fatalf("Turn(%v, %v, %v): error %d", a, from, to, e)
		}
		back, e := names.Turn(turned, to, from)
		wantLists(t, "Turn twice", back, e, a)
	}
}

// P2.1 (R7).
func TestMemoryOfRelations(t *testing.T) {
	from, to := []int{1, 2}, []int{3, 4}
	a := [][]int{{3, 4}, {3, 4}}
	turned, _ := names.Turn(a, from, to)
	composed, _ := names.Compose(turned, a, from)
	spoil(turned[0])
	spoil(composed[0])
	want := [][]int{{3, 4}, {3, 4}}
	if !slices.Equal(turned[1], from) || !slices.Equal(composed[1], to) || !sameLists(a, want) || from[0] != 1 || to[0] != 3 {
		t.Errorf("results share memory: %v, %v, %v, %v, %v", turned, composed, a, from, to)
	}
}
