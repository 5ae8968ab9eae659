package keys_test

import (
	"math/rand/v2"
	"slices"
	"testing"

	"noctuary/api"
	"noctuary/keys"
)

// P3.1 (K10, K11, K17): the chapter's examples.
func TestQuestions(t *testing.T) {
	m := sample()
	for char := range 2 {
		n, e := keys.Worst(m, []int{3, 7}, char)
		wantNumber(t, "Worst", n, e, 2)
	}
	c, e := keys.Best(m, []int{3, 7})
	wantNumber(t, "Best", c, e, 0)
	k, e := keys.Build(m)
	wantKey(t, "Build", k, e, api.Key{
		Nodes:  []api.KeyNode{node(0, 1, -4), node(1, -1, -2, -3)},
		Leaves: [][]int{{10}, {10, 30}, {30}, {20}},
	})
}

// P3.1 (K10): only the states count that were not excluded; a character that is decided may be asked for, too.
func TestWorstOfFewStates(t *testing.T) {
	m := sample()
	wants := []struct {
		seen       []int
		char, want int
	}{
		{[]int{3, 7}, 0, 2}, {[]int{2, 7}, 0, 1}, {[]int{1, 7}, 0, 2}, {[]int{1, 5}, 1, 1}, {[]int{1, 2}, 1, 2},
		{[]int{1, 2}, 0, 2}, {[]int{2, 6}, 1, 0}, {[]int{2, 6}, 0, 0}, {[]int{3, 5}, 1, 2}, {[]int{3, 4}, 0, 1},
	}
	for _, x := range wants {
		n, e := keys.Worst(m, x.seen, x.char)
		wantNumber(t, "Worst", n, e, x.want)
	}
	n, e := keys.Worst(api.Matrix{States: []int{2}}, []int{3}, 0)
	wantNumber(t, "Worst without rows", n, e, 0)
	great := greatestMatrix()
	n, e = keys.Worst(great, openSets(great), 63)
	wantNumber(t, "Worst of the greatest", n, e, 399)
	n, e = keys.Worst(great, with(openSets(great), 63, 1), 63)
	wantNumber(t, "Worst of one state", n, e, 64)
}

// P3.1 (K10, K11, K17): each state counts, the last one, too.
func TestQuestionsOfEachState(t *testing.T) {
	for s := range api.MaxStates {
		m := api.Matrix{States: []int{api.MaxStates, api.MaxStates}}
		for i := range 5 {
			m.Rows = append(m.Rows, row(1+i, 1<<s, 1<<max(0, s-i)))
		}
		n, e := keys.Worst(m, openSets(m), 0)
		wantNumber(t, "Worst", n, e, 5)
		n, e = keys.Worst(m, openSets(m), 1)
		wantNumber(t, "Worst", n, e, max(1, 5-s))
		c, e := keys.Best(m, openSets(m))
		wantNumber(t, "Best", c, e, min(1, s))
		k, e := keys.Build(m)
		if e != api.OK || len(k.Nodes) == 0 || k.Nodes[0].Char != min(1, s) {
			t.Errorf("Build: %v, error %d", k, e)
		}
	}
}

// P3.1 (K10, K11), P3.4: by trying all specimens.
func TestQuestionsBySpecimens(t *testing.T) {
	none := 0
	eachMatrix(t, func(r *rand.Rand, m api.Matrix) {
		seen := someSets(r, m)
		best, least := -1, 0
		for c := range m.States {
			want, _ := worst(m, seen, c)
			n, e := keys.Worst(m, seen, c)
			wantNumber(t, "Worst", n, e, want)
			if n > len(remain(m, seen)) {
				t.Errorf("Worst is beyond what remains: %d", n)
			}
			decided := seen[c]&(seen[c]-1) == 0
			if !decided && (best < 0 || want < least) {
				best, least = c, want
			}
		}
		c, e := keys.Best(m, seen)
		if best < 0 {
			none++
			wantError(t, "Best", number(c, e), api.ErrNone)
			return
		}
		wantNumber(t, "Best", c, e, best)
	})
	if none < 5 || none > 200 {
		t.Errorf("all characters were decided %d times", none)
	}
}

// P3.1 (K11): a character that is decided is not asked, even if others tell less.
func TestBestOfUndecided(t *testing.T) {
	m := api.Matrix{States: []int{2, 2, 2}, Rows: []api.Row{row(1, 1, 3, 3), row(2, 1, 3, 1), row(3, 1, 3, 2)}}
	c, e := keys.Best(m, []int{1, 3, 3})
	wantNumber(t, "Best", c, e, 2)
	c, e = keys.Best(m, []int{3, 3, 1})
	wantNumber(t, "Best of equal ones", c, e, 0)
	c, e = keys.Best(m, []int{1, 3, 1})
	wantNumber(t, "Best that tells nothing", c, e, 1)
	c, e = keys.Best(m, []int{1, 2, 1})
	wantError(t, "Best when all are decided", number(c, e), api.ErrNone)
	c, e = keys.Best(api.Matrix{States: []int{2, 2}}, []int{1, 3})
	wantNumber(t, "Best without rows", c, e, 1)
	c, e = keys.Best(api.Matrix{States: []int{2, 16}}, []int{2, 1 << 15})
	wantError(t, "Best without rows or characters", number(c, e), api.ErrNone)
}

// built returns the key that Build must return, made as the chapter says.
func built(m api.Matrix) api.Key {
	var k api.Key
	var grow func(seen []int) int
	grow = func(seen []int) int {
		left := remain(m, seen)
		char, least := -1, 0
		for c := range m.States {
			n, fewer := worst(m, seen, c)
			decided := seen[c]&(seen[c]-1) == 0
			if fewer && !decided && (char < 0 || n < least) {
				char, least = c, n
			}
		}
		if len(left) < 2 || char < 0 {
			k.Leaves = append(k.Leaves, left)
			return -len(k.Leaves)
		}
		at := len(k.Nodes)
		k.Nodes = append(k.Nodes, node(char, times(m.States[char], 0)...))
		for s := range m.States[char] {
			k.Nodes[at].Next[s] = grow(with(seen, char, 1<<s))
		}
		return at
	}
	grow(openSets(m))
	return k
}

// P3.1 (K17).
func TestBuildBySpecimens(t *testing.T) {
	r, deep := random(), 0
	for range 60 {
		m := someMatrix(r)
		want := built(m)
		if len(want.Nodes) > 2 {
			deep++
		}
		k, e := keys.Build(m)
		wantKey(t, "Build", k, e, want)
		if t.Failed() {
			t.Fatalf("the matrix was %v", m)
		}
	}
	if deep < 10 {
		t.Errorf("%d keys had some nodes", deep)
	}
}

// P3.1 (K17): leaves alone, leaves without names, and characters that are not useful.
func TestBuildOfSimpleMatrices(t *testing.T) {
	leaf := func(names ...int) api.Key { return api.Key{Leaves: [][]int{names}} }
	cases := []struct {
		what string
		m    api.Matrix
		want api.Key
	}{
		{"no rows", api.Matrix{States: []int{2, 3}}, leaf()},
		{"one row", api.Matrix{States: []int{2}, Rows: []api.Row{row(7, 1)}}, leaf(7)},
		{"rows that are full", api.Matrix{States: []int{2, 2}, Rows: []api.Row{row(7, 3, 3), row(8, 3, 3)}}, leaf(7, 8)},
		{"states of no name", api.Matrix{States: []int{4}, Rows: []api.Row{row(7, 4), row(8, 2)}},
			api.Key{Nodes: []api.KeyNode{node(0, -1, -2, -3, -4)}, Leaves: [][]int{{}, {8}, {7}, {}}}},
		{"equal rows, not full", api.Matrix{States: []int{2}, Rows: []api.Row{row(7, 2), row(8, 2)}},
			api.Key{Nodes: []api.KeyNode{node(0, -1, -2)}, Leaves: [][]int{{}, {7, 8}}}},
		{"a useful one behind others", api.Matrix{States: []int{2, 2, 2}, Rows: []api.Row{row(7, 3, 3, 1), row(8, 3, 3, 3)}},
			api.Key{Nodes: []api.KeyNode{node(2, -1, -2)}, Leaves: [][]int{{7, 8}, {8}}}},
		{"the first one of equal ones", api.Matrix{States: []int{2, 2}, Rows: []api.Row{row(7, 1, 2), row(8, 2, 1)}},
			api.Key{Nodes: []api.KeyNode{node(0, -1, -2)}, Leaves: [][]int{{7}, {8}}}},
		{"a later one that leaves less", api.Matrix{States: []int{2, 3}, Rows: []api.Row{row(7, 1, 1), row(8, 1, 2), row(9, 2, 4)}},
			api.Key{Nodes: []api.KeyNode{node(1, -1, -2, -3)}, Leaves: [][]int{{7}, {8}, {9}}}},
	}
	for _, x := range cases {
		k, e := keys.Build(x.m)
		wantKey(t, "Build of "+x.what, k, e, x.want)
	}
}

// P3.1 (K17): nodes and leaves in the order in which they are made, also behind a node that is not the last one.
func TestBuildInOrder(t *testing.T) {
	m := api.Matrix{States: []int{2, 2, 2}, Rows: []api.Row{row(1, 1, 1, 3), row(2, 1, 2, 3), row(3, 2, 3, 1), row(4, 2, 3, 2)}}
	k, e := keys.Build(m)
	wantKey(t, "Build", k, e, api.Key{
		Nodes:  []api.KeyNode{node(0, 1, 2), node(1, -1, -2), node(2, -3, -4)},
		Leaves: [][]int{{1}, {2}, {3}, {4}},
	})
}

// lacking returns a matrix with a row for each state of each character, which lacks this state alone: all characters are asked, and there is a leaf for each specimen.
func lacking(states ...int) api.Matrix {
	m := api.Matrix{States: states}
	for c, n := range states {
		for s := range n {
			full := openSets(m)
			m.Rows = append(m.Rows, row(len(m.Rows)+1, with(full, c, full[c]-1<<s)...))
		}
	}
	return m
}

// P3.1 (K17): as many leaves as there may be, and one more.
func TestBuildLimit(t *testing.T) {
	k, e := keys.Build(lacking(10, 10, 10))
	if e != api.OK || len(k.Leaves) != api.MaxNodes || len(k.Nodes) != 111 {
		t.Errorf("Build with 1000 leaves: %d nodes, %d leaves, error %d", len(k.Nodes), len(k.Leaves), e)
	}
	k, e = keys.Build(lacking(7, 11, 13))
	wantError(t, "Build with 1001 leaves", oneKey(k, e), api.ErrLimit)
	k, e = keys.Build(lacking(slices.Repeat([]int{2}, 10)...))
	wantError(t, "Build with 1023 nodes", oneKey(k, e), api.ErrLimit)
	k, e = keys.Build(lacking(slices.Repeat([]int{2}, 9)...))
	if e != api.OK || len(k.Leaves) != 512 || len(k.Nodes) != 511 {
		t.Errorf("Build with 512 leaves: %d nodes, %d leaves, error %d", len(k.Nodes), len(k.Leaves), e)
	}
	k, e = keys.Build(greatestMatrix())
	wantError(t, "Build of the greatest", oneKey(k, e), api.ErrLimit)
	k, e = keys.Build(lacking(slices.Repeat([]int{2}, api.MaxChars)...))
	wantError(t, "Build of many characters", oneKey(k, e), api.ErrLimit)
}

// chained returns a matrix of two states for each character, and as many rows as there may be, of which each character tells one from all further ones.
func chained() api.Matrix {
	m := greatestMatrix()
	m.States = times(api.MaxChars, 2)
	for _, x := range m.Rows {
		for c := range x.May {
			x.May[c] &= 3
		}
	}
	return m
}

// P3.1 (K17): as many nodes on a path as there may be.
func TestBuildDeep(t *testing.T) {
	m := chained()
	var want api.Key
	for c := range api.MaxChars {
		want.Nodes = append(want.Nodes, node(c, -1-c, c+1))
		want.Leaves = append(want.Leaves, []int{m.Rows[c].Name})
	}
	want.Nodes[api.MaxChars-1].Next[1] = -1 - api.MaxChars
	want.Leaves = append(want.Leaves, upTo(m.Rows[api.MaxChars].Name, api.MaxID))
	k, e := keys.Build(m)
	wantKey(t, "Build", k, e, want)
	depth, e := keys.Depth(m, k)
	wantNumber(t, "Depth", depth, e, api.MaxChars)
	right, e := keys.Right(m, k)
	wantTruth(t, "Right", right, e, true)
	l, e := keys.Confused(m, k)
	if n := api.MaxRows - api.MaxChars; e != api.OK || len(l) != n*(n-1)/2 {
		t.Errorf("Confused: %d pairs, error %d", len(l), e)
	}
}

// P3.7: what is built is valid and right, and confuses just the names that some specimen may both be.
func TestBuiltKeys(t *testing.T) {
	eachMatrix(t, func(_ *rand.Rand, m api.Matrix) {
		k, e := keys.Build(m)
		if e != api.OK || keys.CheckKey(m, k) != api.OK {
			t.Fatalf("Build: %v, error %d", k, e)
		}
		right, e := keys.Right(m, k)
		wantTruth(t, "Right", right, e, true)
		if name, s := firstWrong(m, k); name != 0 {
			t.Errorf("%v is wrong of %d with %v", k, name, s)
		}
		l, e := keys.Confused(m, k)
		wantLists(t, "Confused", l, e, mixed(m))
		var same [][]int
		for i, a := range m.Rows {
			for _, b := range m.Rows[i+1:] {
				if _, e := keys.Same(m, a.Name, b.Name); e == api.OK {
					same = append(same, []int{a.Name, b.Name})
				}
			}
		}
		wantLists(t, "Confused", l, e, same)
	})
}

// P3.1: what is built is new memory, and its lists share none (R7).
func TestMemoryOfBuild(t *testing.T) {
	m := sample()
	want, _ := keys.Build(m)
	want = copyOfKey(want)
	for i := range want.Leaves {
		k, _ := keys.Build(m)
		spoil(k.Leaves[i])
		k.Leaves[i] = want.Leaves[i]
		if !sameKey(k, want) || !sameMatrix(m, sample()) {
			t.Errorf("the leaf %d shares memory", i)
		}
	}
	for i := range want.Nodes {
		k, _ := keys.Build(m)
		spoil(k.Nodes[i].Next)
		k.Nodes[i].Next = want.Nodes[i].Next
		if !sameKey(k, want) || !sameMatrix(m, sample()) {
			t.Errorf("the node %d shares memory", i)
		}
	}
	k, e := keys.Build(m)
	wantKey(t, "Build", k, e, want)
}
