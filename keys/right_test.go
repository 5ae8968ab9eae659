package keys_test

import (
	"math/rand/v2"
	"slices"
	"testing"

	"noctuary/api"
	"noctuary/keys"
)

// P3.1 (K15, K16): the chapter's examples.
func TestRightAndWrong(t *testing.T) {
	m, k := sample(), sampleKey()
	right, e := keys.Right(m, k)
	wantTruth(t, "Right", right, e, true)
	name, specimen, e := keys.Wrong(m, k)
	wantError(t, "Wrong of a right key", wrong(name, specimen, e), api.ErrNone)
	k.Leaves[2] = []int{10}
	right, e = keys.Right(m, k)
	wantTruth(t, "Right", right, e, false)
	name, specimen, e = keys.Wrong(m, k)
	wantNumber(t, "Wrong", name, e, 30)
	wantList(t, "Wrong", specimen, e, []int{0, 1})
}

// P3.1 (K15, K16): without rows, and without nodes.
func TestRightOfSimpleKeys(t *testing.T) {
	none, empty := api.Matrix{States: []int{2, 3}}, api.Key{Leaves: [][]int{{}}}
	for _, k := range []api.Key{empty, sampleKey()} {
		right, e := keys.Right(none, k)
		wantTruth(t, "Right without rows", right, e, true)
	}
	right, e := keys.Right(sample(), api.Key{Leaves: [][]int{{1, 10, 20, 30, 40}}})
	wantTruth(t, "Right of a leaf with all", right, e, true)
	right, e = keys.Right(sample(), api.Key{Leaves: [][]int{{10, 30}, {10, 20, 30}}})
	wantTruth(t, "Right of a leaf that lacks one", right, e, false)
	name, specimen, e := keys.Wrong(sample(), api.Key{Leaves: [][]int{{10, 30}, {10, 20, 30}}})
	wantNumber(t, "Wrong", name, e, 20)
	wantList(t, "Wrong", specimen, e, []int{1, 0})
	name, specimen, e = keys.Wrong(sample(), empty)
	wantNumber(t, "Wrong", name, e, 10)
	wantList(t, "Wrong", specimen, e, []int{0, 0})
}

// P3.1 (K16): the first specimen is the one with the lesser number at the first index, whichever character is asked first.
func TestFirstWrongSpecimen(t *testing.T) {
	m := api.Matrix{States: []int{3, 2, 3}, Rows: []api.Row{row(4, 6, 3, 5)}}
	k := api.Key{
		Nodes:  []api.KeyNode{node(2, 1, -1, 2), node(0, -2, -1, -2), node(0, -1, 3, -1), node(1, -1, -2)},
		Leaves: [][]int{{4}, {}},
	}
	name, specimen, e := keys.Wrong(m, k)
	wantNumber(t, "Wrong", name, e, 4)
	wantList(t, "Wrong", specimen, e, []int{1, 1, 2})
	k.Nodes[3].Next[1] = -1
	_, specimen, e = keys.Wrong(m, k)
	wantList(t, "Wrong", specimen, e, []int{2, 0, 0})
}

// P3.1 (K15, K16), P3.6: by trying all specimens.
func TestRightBySpecimens(t *testing.T) {
	right, not := 0, 0
	eachKey(t, func(_ *rand.Rand, m api.Matrix, k api.Key) {
		wantName, want := firstWrong(m, k)
		is, e := keys.Right(m, k)
		wantTruth(t, "Right", is, e, wantName == 0)
		name, specimen, e := keys.Wrong(m, k)
		if wantName == 0 {
			right++
			wantError(t, "Wrong of a right key", wrong(name, specimen, e), api.ErrNone)
			return
		}
		not++
		wantNumber(t, "Wrong", name, e, wantName)
		wantList(t, "Wrong", specimen, e, want)
		path, _ := keys.Trace(m, k, specimen)
		row, _ := keys.Row(m, name)
		if len(path) == 0 || slices.Contains(k.Leaves[-1-path[len(path)-1]], name) || !agrees(specimen, row.May) {
			t.Errorf("%v of %d comes to a leaf with it, or is none of it", specimen, name)
		}
	})
	if right < 200 || not < 200 {
		t.Errorf("%d keys were right, and %d were not", right, not)
	}
}

// P3.6, P3.8: a right key leads each name that fits to itself, and confuses names that some specimen may both be.
func TestWhatRightKeysDo(t *testing.T) {
	eachKey(t, func(r *rand.Rand, m api.Matrix, k api.Key) {
		if right, e := keys.Right(m, k); e != api.OK || !right {
			return
		}
		seen := someSets(r, m)
		follow, _ := keys.Follow(m, k, seen)
		for _, x := range m.Rows {
			if fits, e := keys.Fits(m, x.Name, seen); e != api.OK || fits && !slices.Contains(follow, x.Name) {
				t.Errorf("Follow(%v): %v has not %d, error %d", seen, follow, x.Name, e)
			}
		}
		confused, _ := keys.Confused(m, k)
		for i, a := range m.Rows {
			for _, b := range m.Rows[i+1:] {
				pair := []int{a.Name, b.Name}
				_, e := keys.Same(m, a.Name, b.Name)
				if e == api.OK && !slices.ContainsFunc(confused, func(l []int) bool { return slices.Equal(l, pair) }) {
					t.Errorf("Confused: %v has not %v", confused, pair)
				}
			}
		}
	})
}

// P3.1: what Wrong returns is new memory, and no argument is changed (R7).
func TestMemoryOfWrong(t *testing.T) {
	m, k := sample(), api.Key{Leaves: [][]int{{20}}}
	_, specimen, _ := keys.Wrong(m, k)
	spoil(specimen)
	name, specimen, e := keys.Wrong(m, k)
	wantNumber(t, "Wrong", name, e, 10)
	wantList(t, "Wrong", specimen, e, []int{0, 0})
	if !sameMatrix(m, sample()) || !sameKey(k, api.Key{Leaves: [][]int{{20}}}) {
		t.Errorf("arguments were changed: %v, %v", m, k)
	}
}
