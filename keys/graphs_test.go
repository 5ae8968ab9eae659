package keys_test

import (
	"math/rand/v2"
	"slices"
	"testing"

	"noctuary/api"
	"noctuary/keys"
)

// P3.1 (K12).
func TestCheckKey(t *testing.T) {
	ten := [][]int{{10}}
	good := map[string]api.Key{
		"the sample":                   sampleKey(),
		"a leaf alone":                 {Leaves: ten},
		"a leaf without names":         {Leaves: [][]int{{}}},
		"a leaf with strangers":        {Leaves: [][]int{{1, 11, api.MaxID}}},
		"a leaf with all there may be": {Leaves: [][]int{upTo(1, api.MaxID)}},
		"leaves that are equal":        {Leaves: [][]int{{10}, {10}}},
		"as many leaves":               {Leaves: make([][]int, api.MaxNodes)},
		"as many nodes":                {Nodes: slices.Repeat([]api.KeyNode{node(0, -1, -1)}, api.MaxNodes), Leaves: ten},
		"a node that leads far":        {Nodes: append(slices.Repeat([]api.KeyNode{node(0, -1, 999)}, 999), node(1, -1, -1, -1)), Leaves: ten},
		"a last leaf":                  {Nodes: []api.KeyNode{node(0, -1, -api.MaxNodes)}, Leaves: make([][]int, api.MaxNodes)},
		"a node that two lead to":      {Nodes: []api.KeyNode{node(0, 1, 1), node(1, -1, -1, -1)}, Leaves: ten},
		"nodes side by side":           {Nodes: []api.KeyNode{node(0, 1, 2), node(1, -1, -1, -1), node(1, -1, -1, -1)}, Leaves: ten},
		"a lone node that leads on":    {Nodes: []api.KeyNode{node(0, 2, -1), node(0, 2, -1), node(1, -1, -1, -1)}, Leaves: ten},
	}
	for what, k := range good {
		if e := keys.CheckKey(sample(), k); e != api.OK {
			t.Errorf("%s: error %d", what, e)
		}
	}
	for what, k := range badKeys() {
		if e := keys.CheckKey(sample(), k); e != api.ErrKey {
			t.Errorf("%s: error %d", what, e)
		}
	}
}

// P3.1: ErrKey comes before all errors but ErrMatrix.
func TestErrKey(t *testing.T) {
	for what, k := range badKeys() {
		for _, x := range []asked{goodArguments(), badArguments()} {
			x.k = k
			wantErrors(t, what, x, api.ErrKey, "CheckKey", "Follow", "Trace", "Right", "Wrong", "Confused", "Depth")
		}
	}
}

// P3.1 (K12): no character twice on the longest path, whichever it is.
func TestCheckKeyOfALongPath(t *testing.T) {
	m, k := chain()
	if e := keys.CheckKey(m, k); e != api.OK {
		t.Errorf("the chain: error %d", e)
	}
	for c := range api.MaxChars - 1 {
		bad := copyOfKey(k)
		bad.Nodes[api.MaxChars-1].Char = c
		if e := keys.CheckKey(m, bad); e != api.ErrKey {
			t.Errorf("with the character %d at the end, too: error %d", c, e)
		}
	}
	longer := copyOfKey(k)
	longer.Nodes[api.MaxChars-1].Next[1] = api.MaxChars
	longer.Nodes = append(longer.Nodes, node(api.MaxChars-1, -1, -1))
	if e := keys.CheckKey(m, longer); e != api.ErrKey {
		t.Errorf("with the last character twice: error %d", e)
	}
}

// P3.1 (K12): of many keys that are nearly valid.
func TestCheckKeyByPaths(t *testing.T) {
	valid, bad := 0, 0
	eachKey(t, func(r *rand.Rand, m api.Matrix, k api.Key) {
		if e := keys.CheckKey(m, k); e != api.OK {
			t.Errorf("CheckKey: error %d", e)
		}
		if len(k.Nodes) == 0 {
			return
		}
		n := &k.Nodes[r.IntN(len(k.Nodes))]
		n.Next[r.IntN(len(n.Next))] = r.IntN(len(k.Nodes)+len(k.Leaves)+2) - len(k.Leaves) - 1
		want := api.OK
		if !isKey(k) {
			want = api.ErrKey
			bad++
		} else {
			valid++
		}
		if e := keys.CheckKey(m, k); e != want {
			t.Errorf("CheckKey: error %d; want %d", e, want)
		}
	})
	if valid < 100 || bad < 100 {
		t.Errorf("%d keys were valid, and %d were not", valid, bad)
	}
}

// isKey reports whether all nodes lead on, and all paths ask each character once.
func isKey(k api.Key) bool {
	for i, n := range k.Nodes {
		for _, next := range n.Next {
			if next >= 0 && next <= i || next >= len(k.Nodes) || -1-next >= len(k.Leaves) {
				return false
			}
		}
	}
	var once func(at int, asked ...int) bool
	once = func(at int, asked ...int) bool {
		if at < 0 {
			return true
		}
		char := k.Nodes[at].Char
		for _, next := range k.Nodes[at].Next {
			if !once(next, append(slices.Clone(asked), char)...) {
				return false
			}
		}
		return !slices.Contains(asked, char)
	}
	for i := range k.Nodes {
		if !once(i) {
			return false
		}
	}
	return true
}

// P3.1 (K13, K14, K18, K19): the chapter's examples.
func TestWalks(t *testing.T) {
	m, k := sample(), sampleKey()
	l, e := keys.Follow(m, k, []int{1, 7})
	wantList(t, "Follow(1, 7)", l, e, []int{10, 30})
	l, e = keys.Follow(m, k, []int{3, 1})
	wantList(t, "Follow(3, 1)", l, e, []int{10, 20})
	l, e = keys.Trace(m, k, []int{0, 1})
	wantList(t, "Trace(0, 1)", l, e, []int{0, 1, -3})
	l, e = keys.Trace(m, k, []int{1, 2})
	wantList(t, "Trace(1, 2)", l, e, []int{0, -2})
	pairs, e := keys.Confused(m, k)
	wantLists(t, "Confused", pairs, e, [][]int{{10, 30}})
	n, e := keys.Depth(m, k)
	wantNumber(t, "Depth", n, e, 2)
}

// P3.1 (K13, K14, K18, K19): without nodes the one path is the leaf 0 alone.
func TestWalksWithoutNodes(t *testing.T) {
	m, k := sample(), api.Key{Leaves: [][]int{{5, 10}, {20, 30}}}
	l, e := keys.Follow(m, k, []int{2, 4})
	wantList(t, "Follow", l, e, []int{5, 10})
	l, e = keys.Trace(m, k, []int{1, 2})
	wantList(t, "Trace", l, e, []int{-1})
	pairs, e := keys.Confused(m, k)
	wantLists(t, "Confused", pairs, e, [][]int{{5, 10}, {20, 30}})
	n, e := keys.Depth(m, k)
	wantNumber(t, "Depth", n, e, 0)
	l, e = keys.Follow(m, api.Key{Leaves: [][]int{{}}}, []int{3, 7})
	wantList(t, "Follow to no names", l, e, nil)
}

// P3.1 (K13, K18, K19): nodes and leaves to which no path leads do not count for paths; but Confused asks for any leaf.
func TestWalksPastLoneNodes(t *testing.T) {
	m := sample()
	k := api.Key{
		Nodes:  []api.KeyNode{node(1, -1, -1, -2), node(0, 2, -3), node(1, -1, -4, -4)},
		Leaves: [][]int{{20}, {10}, {30, 40}, {40, 41}, {7, 9}},
	}
	l, e := keys.Follow(m, k, []int{3, 7})
	wantList(t, "Follow", l, e, []int{10, 20})
	n, e := keys.Depth(m, k)
	wantNumber(t, "Depth", n, e, 1)
	pairs, e := keys.Confused(m, k)
	wantLists(t, "Confused", pairs, e, [][]int{{7, 9}, {30, 40}, {40, 41}})
}

// P3.1 (K13, K18): with all numbers that may be names, whether the matrix has them or not.
func TestWalksToStrangers(t *testing.T) {
	m := sample()
	k := api.Key{Nodes: []api.KeyNode{node(0, -1, -2)}, Leaves: [][]int{{1, 63, 64, api.MaxID}, {64, 65, 127, 128, api.MaxID - 1}}}
	l, e := keys.Follow(m, k, []int{3, 7})
	wantList(t, "Follow", l, e, []int{1, 63, 64, 65, 127, 128, api.MaxID - 1, api.MaxID})
	pairs, e := keys.Confused(m, api.Key{Leaves: [][]int{{1, 64, api.MaxID}, {64, 65}, {64, api.MaxID}}})
	wantLists(t, "Confused", pairs, e, [][]int{{1, 64}, {1, api.MaxID}, {64, 65}, {64, api.MaxID}})
	all := upTo(1, api.MaxID)
	l, e = keys.Follow(m, api.Key{Leaves: [][]int{all}}, []int{3, 7})
	wantList(t, "Follow to all", l, e, all)
	right, e := keys.Right(m, api.Key{Leaves: [][]int{all}})
	wantTruth(t, "Right of all", right, e, true)
}

// P3.1 (K13, K14), P3.5: by trying all specimens.
func TestFollowBySpecimens(t *testing.T) {
	eachKey(t, func(r *rand.Rand, m api.Matrix, k api.Key) {
		for _, seen := range [][]int{openSets(m), someSets(r, m)} {
			var want []int
			for _, s := range agreeing(m, seen) {
				want = append(want, leafOf(k, s)...)
			}
			slices.Sort(want)
			l, e := keys.Follow(m, k, seen)
			wantList(t, "Follow", l, e, slices.Compact(want))
		}
	})
}

// P3.1 (K14), P3.5: a specimen alone is followed to the leaf of its trace, by different characters, not more than Depth.
func TestTraceBySpecimens(t *testing.T) {
	eachKey(t, func(_ *rand.Rand, m api.Matrix, k api.Key) {
		depth, _ := keys.Depth(m, k)
		for s := range specimens(m) {
			path, e := keys.Trace(m, k, s)
			wantList(t, "Trace", path, e, pathOf(k, s))
			var seen, asked []int
			for _, state := range s {
				seen = append(seen, 1<<state)
			}
			l, e := keys.Follow(m, k, seen)
			wantList(t, "Follow", l, e, leafOf(k, s))
			for _, at := range path[:len(path)-1] {
				if slices.Contains(asked, k.Nodes[at].Char) {
					t.Errorf("%v asks %d twice", path, k.Nodes[at].Char)
				}
				asked = append(asked, k.Nodes[at].Char)
			}
			if len(asked) > depth {
				t.Errorf("%v is longer than %d", path, depth)
			}
		}
	})
}

// P3.5: with more excluded there is no name that was not there.
func TestFollowWithMoreExcluded(t *testing.T) {
	eachKey(t, func(r *rand.Rand, m api.Matrix, k api.Key) {
		a := someSets(r, m)
		less, e := keys.Both(m, a, someSets(r, m))
		if e != api.OK {
			return
		}
		before, _ := keys.Follow(m, k, a)
		after, e := keys.Follow(m, k, less)
		for _, name := range after {
			if e != api.OK || !slices.Contains(before, name) {
				t.Errorf("Follow(%v): %v, and Follow(%v): %v", a, before, less, after)
			}
		}
	})
}

// P3.1 (K18).
func TestConfusedByLeaves(t *testing.T) {
	eachKey(t, func(_ *rand.Rand, m api.Matrix, k api.Key) {
		var want [][]int
		for a := range 31 {
			for b := a + 1; b <= 30; b++ {
				if slices.ContainsFunc(k.Leaves, func(l []int) bool { return slices.Contains(l, a) && slices.Contains(l, b) }) {
					want = append(want, []int{a, b})
				}
			}
		}
		l, e := keys.Confused(m, k)
		wantLists(t, "Confused", l, e, want)
	})
}

// P3.1 (K19).
func TestDepthByPaths(t *testing.T) {
	deep := 0
	eachKey(t, func(_ *rand.Rand, m api.Matrix, k api.Key) {
		want := 0
		for s := range specimens(m) {
			want = max(want, len(pathOf(k, s))-1)
		}
		n, e := keys.Depth(m, k)
		wantNumber(t, "Depth", n, e, want)
		if n > 1 {
			deep++
		}
	})
	if deep < 50 {
		t.Errorf("%d keys were deep", deep)
	}
}

// P3.1 (K12 to K16, K18, K19): each node is walked once (R1), though there are 2^64 paths.
func TestWalksOfManyPaths(t *testing.T) {
	m, k := chain()
	m.Rows = []api.Row{row(1, times(api.MaxChars, 3)...), row(2, times(api.MaxChars, 2)...)}
	l, e := keys.Follow(m, k, openSets(m))
	wantList(t, "Follow", l, e, []int{1})
	n, e := keys.Depth(m, k)
	wantNumber(t, "Depth", n, e, api.MaxChars)
	right, e := keys.Right(m, k)
	wantTruth(t, "Right", right, e, false)
	name, specimen, e := keys.Wrong(m, k)
	wantNumber(t, "Wrong", name, e, 2)
	wantList(t, "Wrong", specimen, e, times(api.MaxChars, 1))
	path, e := keys.Trace(m, k, times(api.MaxChars, 1))
	wantList(t, "Trace", path, e, append(upTo(0, api.MaxChars-1), -1))
}

// greatestKey returns a key of which there is no greater one, in nodes and leaves, for the greatest matrix: all nodes of a character lead to all nodes of the next one. Each leaf has all names but one.
func greatestKey(m api.Matrix) api.Key {
	var k api.Key
	const width = 15
	for i := range api.MaxNodes {
		n := node(min(i/width, api.MaxChars-1))
		for s := range api.MaxStates {
			next := (i/width+1)*width + s%width
			if n.Char == api.MaxChars-1 || next >= api.MaxNodes {
				next = -1 - (i*api.MaxStates+s)%api.MaxNodes
			}
			n.Next = append(n.Next, next)
		}
		k.Nodes = append(k.Nodes, n)
		leaf := upTo(m.Rows[0].Name, api.MaxID)
		k.Leaves = append(k.Leaves, slices.Delete(leaf, i%api.MaxRows, i%api.MaxRows+1))
	}
	return k
}

// P3.1 (K12 to K16, K18, K19): of a key of which there is no greater one.
func TestWalksOfTheGreatest(t *testing.T) {
	m := greatestMatrix()
	k := greatestKey(m)
	if e := keys.CheckKey(m, k); e != api.OK {
		t.Fatalf("CheckKey: error %d", e)
	}
	l, e := keys.Follow(m, k, openSets(m))
	wantList(t, "Follow", l, e, upTo(m.Rows[0].Name, api.MaxID))
	n, e := keys.Depth(m, k)
	wantNumber(t, "Depth", n, e, api.MaxChars)
	pairs, e := keys.Confused(m, k)
	if e != api.OK || len(pairs) != api.MaxRows*(api.MaxRows-1)/2 {
		t.Errorf("Confused: %d pairs, error %d", len(pairs), e)
	}
	name, specimen, e := keys.Wrong(m, k)
	if e != api.OK || slices.Contains(leafOf(k, specimen), name) {
		t.Errorf("Wrong: %d, %v, error %d", name, specimen, e)
	}
	for i := range k.Leaves {
		k.Leaves[i] = upTo(m.Rows[0].Name, api.MaxID)
	}
	right, e := keys.Right(m, k)
	wantTruth(t, "Right", right, e, true)
}

// P3.1: results are new memory, and their lists share none (R7).
func TestMemoryOfWalks(t *testing.T) {
	m := sample()
	for _, k := range []api.Key{{Leaves: [][]int{{10, 20, 30}}}, {Leaves: [][]int{{10, 30}, {10, 20}, {20, 30}}}, sampleKey()} {
		old, seen, specimen := copyOfKey(k), []int{3, 7}, []int{0, 0}
		l, _ := keys.Follow(m, k, seen)
		spoil(l)
		l, _ = keys.Trace(m, k, specimen)
		spoil(l)
		pairs, _ := keys.Confused(m, k)
		want, _ := keys.Confused(m, k)
		for i := range pairs {
			spoil(pairs[i])
			pairs[i] = want[i]
			if !sameLists(pairs, want) {
				t.Errorf("the pair %d shares memory", i)
			}
		}
		if !sameKey(k, old) || !sameMatrix(m, sample()) || !slices.Equal(seen, []int{3, 7}) || !slices.Equal(specimen, []int{0, 0}) {
			t.Errorf("arguments have memory of a result: %v, %v, %v, %v", k, m, seen, specimen)
		}
	}
}
