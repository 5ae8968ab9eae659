package keys_test

import (
	"iter"
	"math/rand/v2"
	"slices"
	"testing"

	"noctuary/api"
	"noctuary/keys"
)

const huge = int(^uint(0) >> 1)

// sample is the matrix m of the chapter's examples.
func sample() api.Matrix {
	return api.Matrix{States: []int{2, 3}, Rows: []api.Row{row(10, 1, 3), row(20, 2, 1), row(30, 1, 6)}}
}

// sampleKey is the key k of the chapter's examples.
func sampleKey() api.Key {
	return api.Key{Nodes: []api.KeyNode{node(0, 1, -2), node(1, -1, -3, -4)}, Leaves: [][]int{{10}, {20}, {10, 30}, {30}}}
}

func row(name int, may ...int) api.Row { return api.Row{Name: name, May: may} }

func node(char int, next ...int) api.KeyNode { return api.KeyNode{Char: char, Next: next} }

// copyOf returns a matrix in memory of its own.
func copyOf(m api.Matrix) api.Matrix {
	out := api.Matrix{States: slices.Clone(m.States)}
	for _, r := range m.Rows {
		out.Rows = append(out.Rows, row(r.Name, slices.Clone(r.May)...))
	}
	return out
}

// copyOfKey returns a key in memory of its own.
func copyOfKey(k api.Key) api.Key {
	var out api.Key
	for _, n := range k.Nodes {
		out.Nodes = append(out.Nodes, node(n.Char, slices.Clone(n.Next)...))
	}
	for _, l := range k.Leaves {
		out.Leaves = append(out.Leaves, slices.Clone(l))
	}
	return out
}

func sameMatrix(a, b api.Matrix) bool {
	return slices.Equal(a.States, b.States) && slices.EqualFunc(a.Rows, b.Rows, sameRow)
}

func sameRow(a, b api.Row) bool { return a.Name == b.Name && slices.Equal(a.May, b.May) }

func sameKey(a, b api.Key) bool {
	return sameLists(a.Leaves, b.Leaves) && slices.EqualFunc(a.Nodes, b.Nodes, func(x, y api.KeyNode) bool {
		return x.Char == y.Char && slices.Equal(x.Next, y.Next)
	})
}

func sameLists(a, b [][]int) bool { return slices.EqualFunc(a, b, slices.Equal) }

// upTo returns the numbers from one to another one.
func upTo(from, to int) []int {
	var l []int
	for n := from; n <= to; n++ {
		l = append(l, n)
	}
	return l
}

// times returns a list of n equal numbers.
func times(n, x int) []int { return slices.Repeat([]int{x}, n) }

// has reports whether a set has a state.
func has(set, state int) bool { return set>>state&1 == 1 }

// openSets returns the sets of all states.
func openSets(m api.Matrix) []int {
	var out []int
	for _, n := range m.States {
		out = append(out, 1<<n-1)
	}
	return out
}

// specimens yields all specimens, the first one first.
func specimens(m api.Matrix) iter.Seq[[]int] {
	return func(yield func([]int) bool) {
		s := make([]int, len(m.States))
		for {
			if !yield(slices.Clone(s)) {
				return
			}
			c := len(s) - 1
			for c >= 0 && s[c] == m.States[c]-1 {
				s[c] = 0
				c--
			}
			if c < 0 {
				return
			}
			s[c]++
		}
	}
}

// agrees reports whether a specimen agrees with all of some lists of sets.
func agrees(specimen []int, lists ...[]int) bool {
	for _, sets := range lists {
		for c, s := range specimen {
			if !has(sets[c], s) {
				return false
			}
		}
	}
	return true
}

// agreeing returns the specimens that agree with all of some lists of sets.
func agreeing(m api.Matrix, lists ...[]int) [][]int {
	var out [][]int
	for s := range specimens(m) {
		if agrees(s, lists...) {
			out = append(out, s)
		}
	}
	return out
}

// remain returns the names some specimen of which agrees with what was seen, by trying all specimens.
func remain(m api.Matrix, seen []int) []int {
	var out []int
	for _, r := range m.Rows {
		if len(agreeing(m, r.May, seen)) > 0 {
			out = append(out, r.Name)
		}
	}
	return out
}

// with returns a list with another number at an index.
func with(l []int, i, x int) []int {
	out := slices.Clone(l)
	out[i] = x
	return out
}

// worst returns how many names remain at worst, and whether some state leaves fewer than remain.
func worst(m api.Matrix, seen []int, char int) (n int, fewer bool) {
	all := len(remain(m, seen))
	for s := range m.States[char] {
		if has(seen[char], s) {
			left := len(remain(m, with(seen, char, 1<<s)))
			n = max(n, left)
			fewer = fewer || left < all
		}
	}
	return n, fewer
}

// pathOf returns the path of a specimen.
func pathOf(k api.Key, specimen []int) []int {
	if len(k.Nodes) == 0 {
		return []int{-1}
	}
	path := []int{0}
	for path[len(path)-1] >= 0 {
		n := k.Nodes[path[len(path)-1]]
		path = append(path, n.Next[specimen[n.Char]])
	}
	return path
}

// leafOf returns the leaf to which a specimen comes.
func leafOf(k api.Key, specimen []int) []int {
	path := pathOf(k, specimen)
	return k.Leaves[-1-path[len(path)-1]]
}

// firstWrong returns the name and the specimen that Wrong must return, by trying all specimens.
func firstWrong(m api.Matrix, k api.Key) (name int, specimen []int) {
	for _, r := range m.Rows {
		for _, s := range agreeing(m, r.May) {
			if !slices.Contains(leafOf(k, s), r.Name) {
				return r.Name, s
			}
		}
	}
	return 0, nil
}

// mixed returns pairs of names that some specimen may both be, in order.
func mixed(m api.Matrix) [][]int {
	var out [][]int
	for i, a := range m.Rows {
		for _, b := range m.Rows[i+1:] {
			if len(agreeing(m, a.May, b.May)) > 0 {
				out = append(out, []int{a.Name, b.Name})
			}
		}
	}
	return out
}

func random() *rand.Rand { return rand.New(rand.NewPCG(3, 5)) }

// someNames returns up to n numbers from 1 to some number, in order.
func someNames(r *rand.Rand, n, most int) []int {
	var out []int
	for range r.IntN(n + 1) {
		out = append(out, 1+r.IntN(most))
	}
	slices.Sort(out)
	return slices.Compact(out)
}

// someSets returns a nonempty set for each character.
func someSets(r *rand.Rand, m api.Matrix) []int {
	var out []int
	for _, n := range m.States {
		set := 1 + r.IntN(1<<n-1)
		switch r.IntN(4) {
		case 0:
			set = 1<<n - 1
		case 1:
			set = 1 << r.IntN(n)
		}
		out = append(out, set)
	}
	return out
}

// someMatrix returns a valid matrix of a few characters and rows.
func someMatrix(r *rand.Rand) api.Matrix {
	var m api.Matrix
	for range 1 + r.IntN(4) {
		m.States = append(m.States, 2+r.IntN(3))
	}
	for _, name := range someNames(r, 7, 20) {
		m.Rows = append(m.Rows, row(name, someSets(r, m)...))
	}
	return m
}

// someKey returns a valid key: a graph with nodes and leaves to which no path may lead.
func someKey(r *rand.Rand, m api.Matrix) api.Key {
	var k api.Key
	for range 1 + r.IntN(5) {
		k.Leaves = append(k.Leaves, someNames(r, 6, 20))
	}
	n := r.IntN(7)
	k.Nodes = make([]api.KeyNode, n)
	asked := make([]map[int]bool, n)
	for i := n - 1; i >= 0; i-- {
		c := r.IntN(len(m.States))
		k.Nodes[i].Char, asked[i] = c, map[int]bool{c: true}
		for range m.States[c] {
			next := -1 - r.IntN(len(k.Leaves))
			if j := i + 1 + r.IntN(n-i); r.IntN(3) > 0 && j < n && !asked[j][c] {
				next = j
				for d := range asked[j] {
					asked[i][d] = true
				}
			}
			k.Nodes[i].Next = append(k.Nodes[i].Next, next)
		}
	}
	return k
}

// righted returns a key with the names added to its leaves that it lacks to be right.
func righted(m api.Matrix, k api.Key) api.Key {
	out := copyOfKey(k)
	for _, x := range m.Rows {
		for _, s := range agreeing(m, x.May) {
			path := pathOf(out, s)
			i := -1 - path[len(path)-1]
			if !slices.Contains(out.Leaves[i], x.Name) {
				out.Leaves[i] = append(out.Leaves[i], x.Name)
				slices.Sort(out.Leaves[i])
			}
		}
	}
	return out
}

// eachMatrix calls a test with many matrices.
func eachMatrix(t *testing.T, do func(r *rand.Rand, m api.Matrix)) {
	t.Helper()
	r := random()
	do(r, sample())
	for range 300 {
		m := someMatrix(r)
		do(r, m)
		if t.Failed() {
			t.Fatalf("the matrix was %v", m)
		}
	}
}

// eachKey calls a test with many keys: any ones, right ones, and some that lack a single name.
func eachKey(t *testing.T, do func(r *rand.Rand, m api.Matrix, k api.Key)) {
	t.Helper()
	eachMatrix(t, func(r *rand.Rand, m api.Matrix) {
		k := someKey(r, m)
		right := righted(m, k)
		nearly := copyOfKey(right)
		if i := r.IntN(len(nearly.Leaves)); len(nearly.Leaves[i]) > 0 {
			j := r.IntN(len(nearly.Leaves[i]))
			nearly.Leaves[i] = slices.Delete(nearly.Leaves[i], j, j+1)
		}
		for _, k := range []api.Key{k, right, nearly} {
			do(r, m, k)
			if t.Failed() {
				t.Fatalf("the key was %v", k)
			}
		}
	})
}

// chain returns a matrix of all characters that there may be, each with two states, without rows, and a key that asks all of them, one after the other, of which either state leads to the next: there are 2^64 paths, all to the leaf 0.
func chain() (api.Matrix, api.Key) {
	m := api.Matrix{States: times(api.MaxChars, 2)}
	k := api.Key{Leaves: [][]int{{1}}}
	for c := range api.MaxChars - 1 {
		k.Nodes = append(k.Nodes, node(c, c+1, c+1))
	}
	k.Nodes = append(k.Nodes, node(api.MaxChars-1, -1, -1))
	return m, k
}

// greatestMatrix returns a matrix of which there is no greater one: of two rows a character with the index of the first one tells them apart, if there is one.
func greatestMatrix() api.Matrix {
	m := api.Matrix{States: times(api.MaxChars, api.MaxStates)}
	for i := range api.MaxRows {
		may := times(api.MaxChars, 1<<api.MaxStates-1)
		for c := range may {
			switch {
			case c == i:
				may[c] = 1
			case c < i:
				may[c] = 1<<api.MaxStates - 2
			}
		}
		m.Rows = append(m.Rows, row(api.MaxID-api.MaxRows+1+i, may...))
	}
	return m
}

// badMatrices returns matrices that are not valid.
func badMatrices() map[string]api.Matrix {
	rows := func(rows ...api.Row) api.Matrix { return api.Matrix{States: []int{2, 3}, Rows: rows} }
	many := api.Matrix{States: []int{2}}
	for i := range api.MaxRows + 1 {
		many.Rows = append(many.Rows, row(i+1, 3))
	}
	return map[string]api.Matrix{
		"nothing":                 {},
		"rows alone":              {Rows: []api.Row{row(1)}},
		"too many characters":     {States: times(api.MaxChars+1, 2)},
		"a character of 1 state":  {States: []int{2, 1}},
		"a character of 0 states": {States: []int{0, 2}},
		"a character of -1":       {States: []int{2, -1, 2}},
		"a character of -huge":    {States: []int{-huge - 1}},
		"too many states":         {States: []int{2, api.MaxStates + 1}},
		"far too many states":     {States: []int{64}},
		"a huge number of states": {States: []int{huge}},
		"too many rows":           many,
		"a Name 0":                rows(row(0, 1, 1), row(1, 1, 1)),
		"a Name below 0":          rows(row(-1, 1, 1)),
		"a Name too great":        rows(row(1, 1, 1), row(api.MaxID+1, 1, 1)),
		"Names not in order":      rows(row(2, 1, 1), row(1, 1, 1)),
		"a Name twice":            rows(row(1, 1, 1), row(2, 1, 1), row(2, 3, 7)),
		"no May":                  rows(row(1)),
		"a May too short":         rows(row(1, 3)),
		"a May too long":          rows(row(1, 3, 7, 1)),
		"a second May too short":  rows(row(1, 3, 7), row(2, 3)),
		"a May of no state":       rows(row(1, 3, 0)),
		"a May of -1":             rows(row(1, -1, 7)),
		"a May of -huge":          rows(row(1, -huge-1, 7)),
		"a May beyond the states": rows(row(1, 3, 7), row(2, 4, 7)),
		"a last May beyond them":  rows(row(1, 3, 8)),
		"a May of 9":              rows(row(1, 3, 9)),
		"a huge May":              rows(row(1, 3, huge)),
	}
}

// badSeens returns lists that are not what was seen, for the sample.
func badSeens() map[string][]int {
	return map[string][]int{
		"nothing":               nil,
		"too short":             {3},
		"too long":              {3, 7, 1},
		"no state":              {0, 7},
		"no state at the end":   {3, 0},
		"-1":                    {-1, 7},
		"-huge":                 {3, -huge - 1},
		"beyond the states":     {4, 7},
		"a state, and one more": {5, 7},
		"beyond the last ones":  {3, 8},
		"huge":                  {3, huge},
	}
}

// badSpecimens returns lists that are no specimens, for the sample.
func badSpecimens() map[string][]int {
	return map[string][]int{
		"nothing":            nil,
		"too short":          {0},
		"too long":           {0, 0, 0},
		"no first state":     {2, 0},
		"no last state":      {0, 3},
		"a state -1":         {-1, 0},
		"a last state -1":    {0, -1},
		"a huge state":       {0, huge},
		"a state below that": {-huge - 1, 0},
	}
}

// badKeys returns keys that are not valid, for the sample.
func badKeys() map[string]api.Key {
	leaf := func(names ...int) api.Key { return api.Key{Leaves: [][]int{names}} }
	nodes := func(nodes ...api.KeyNode) api.Key {
		return api.Key{Nodes: nodes, Leaves: [][]int{{10}, {20}, {10, 30}, {30}}}
	}
	many := api.Key{Nodes: slices.Repeat([]api.KeyNode{node(0, -1, -1)}, api.MaxNodes+1), Leaves: [][]int{{1}}}
	return map[string]api.Key{
		"nothing":                   {},
		"nodes without leaves":      {Nodes: []api.KeyNode{node(0, -1, -1)}},
		"too many nodes":            many,
		"too many leaves":           {Leaves: make([][]int, api.MaxNodes+1)},
		"a leaf not in order":       leaf(20, 10),
		"a leaf with a name twice":  leaf(10, 10),
		"a leaf with 0":             leaf(0, 1),
		"a leaf with -1":            leaf(-1),
		"a leaf with one too great": leaf(1, api.MaxID+1),
		"another leaf like that":    {Leaves: [][]int{{10}, {20, 0}}},
		"a Char -1":                 nodes(node(-1, -1, -1)),
		"a Char too great":          nodes(node(2, -1, -1)),
		"a huge Char":               nodes(node(huge, -1, -1)),
		"a Char of -huge":           nodes(node(-huge-1, -1, -1)),
		"no Next":                   nodes(node(0)),
		"a Next too short":          nodes(node(1, -1, -2)),
		"a Next too long":           nodes(node(0, -1, -2, -3)),
		"a node that leads to it":   nodes(node(0, 0, -1)),
		"a node that leads back":    nodes(node(0, 1, -1), node(1, 0, -1, -1)),
		"a node that is not there":  nodes(node(0, 1, -1)),
		"a node far beyond":         nodes(node(0, huge, -1)),
		"a leaf that is not there":  nodes(node(0, -1, -5)),
		"a leaf far beyond":         nodes(node(0, -1, -huge-1)),
		"a character twice":         nodes(node(0, 1, -1), node(0, -1, -1)),
		"a character twice at last": nodes(node(0, -1, 1), node(0, -1, -2)),
		"a character asked later":   nodes(node(1, -1, 1, 2), node(0, -1, -1), node(1, -1, -1, -1)),
		"a character asked behind":  nodes(node(1, -1, 1, -2), node(0, -1, 2), node(1, -1, -1, -1)),
		"twice where no path leads": nodes(node(0, -1, -1), node(1, 2, -1, -1), node(1, -1, -1, -1)),
		"a lone node without Next":  nodes(node(0, -1, -1), node(1)),
		"a lone node of no Char":    nodes(node(0, -1, -1), node(7, -1, -1)),
		"a lone node that leads up": nodes(node(0, -1, -1), node(1, 0, -1, -1)),
		"a lone node without leaf":  nodes(node(0, -1, -1), node(1, -1, -1, -9)),
	}
}

// result is what a call returned: its error, and whether there was nothing else.
type result struct {
	e     api.Errno
	empty bool
}

func list(l []int, e api.Errno) result         { return result{e, len(l) == 0} }
func lists(l [][]int, e api.Errno) result      { return result{e, len(l) == 0} }
func number(n int, e api.Errno) result         { return result{e, n == 0} }
func truth(is bool, e api.Errno) result        { return result{e, !is} }
func oneRow(r api.Row, e api.Errno) result     { return result{e, sameRow(r, api.Row{})} }
func oneKey(k api.Key, e api.Errno) result     { return result{e, sameKey(k, api.Key{})} }
func nothing(e api.Errno) result               { return result{e, true} }
func wrong(n int, l []int, e api.Errno) result { return result{e, n == 0 && len(l) == 0} }

// asked is all that a function may be asked with; each takes what it needs.
type asked struct {
	m                 api.Matrix
	k                 api.Key
	seen, b, specimen []int
	name, other, char int
}

// goodArguments returns arguments that are in order, for the sample.
func goodArguments() asked {
	return asked{sample(), sampleKey(), []int{3, 7}, []int{3, 7}, []int{0, 0}, 10, 30, 0}
}

// badArguments returns arguments all of which are wrong, but for the matrix.
func badArguments() asked {
	return asked{sample(), api.Key{}, nil, []int{0}, []int{9}, -1, -1, -1}
}

// functions returns all functions that return an error.
func functions() map[string]func(x asked) result {
	return map[string]func(x asked) result{
		"CheckMatrix": func(x asked) result { return nothing(keys.CheckMatrix(x.m)) },
		"Open":        func(x asked) result { return list(keys.Open(x.m)) },
		"Row":         func(x asked) result { return oneRow(keys.Row(x.m, x.name)) },
		"Fits":        func(x asked) result { return truth(keys.Fits(x.m, x.name, x.seen)) },
		"Remain":      func(x asked) result { return list(keys.Remain(x.m, x.seen)) },
		"Both":        func(x asked) result { return list(keys.Both(x.m, x.seen, x.b)) },
		"Same":        func(x asked) result { return list(keys.Same(x.m, x.name, x.other)) },
		"Tell":        func(x asked) result { return list(keys.Tell(x.m, x.name, x.other)) },
		"Worst":       func(x asked) result { return number(keys.Worst(x.m, x.seen, x.char)) },
		"Best":        func(x asked) result { return number(keys.Best(x.m, x.seen)) },
		"CheckKey":    func(x asked) result { return nothing(keys.CheckKey(x.m, x.k)) },
		"Follow":      func(x asked) result { return list(keys.Follow(x.m, x.k, x.seen)) },
		"Trace":       func(x asked) result { return list(keys.Trace(x.m, x.k, x.specimen)) },
		"Right":       func(x asked) result { return truth(keys.Right(x.m, x.k)) },
		"Wrong":       func(x asked) result { return wrong(keys.Wrong(x.m, x.k)) },
		"Build":       func(x asked) result { return oneKey(keys.Build(x.m)) },
		"Confused":    func(x asked) result { return lists(keys.Confused(x.m, x.k)) },
		"Depth":       func(x asked) result { return number(keys.Depth(x.m, x.k)) },
	}
}

// wantErrors checks that some functions return an error, and nothing else.
func wantErrors(t *testing.T, what string, x asked, want api.Errno, names ...string) {
	t.Helper()
	all := functions()
	for _, name := range names {
		wantError(t, name+" with "+what, all[name](x), want)
	}
}

// wantError checks that a call returns an error, and nothing else.
func wantError(t *testing.T, what string, got result, want api.Errno) {
	t.Helper()
	if got.e != want || !got.empty {
		t.Errorf("%s: error %d, other results empty: %v; want error %d alone", what, got.e, got.empty, want)
	}
}

// wantList checks the result of a call that must not fail.
func wantList(t *testing.T, what string, got []int, e api.Errno, want []int) {
	t.Helper()
	if e != api.OK || !slices.Equal(got, want) {
		t.Errorf("%s: %v, error %d; want %v", what, got, e, want)
	}
}

func wantLists(t *testing.T, what string, got [][]int, e api.Errno, want [][]int) {
	t.Helper()
	if e != api.OK || !sameLists(got, want) {
		t.Errorf("%s: %v, error %d; want %v", what, got, e, want)
	}
}

func wantKey(t *testing.T, what string, got api.Key, e api.Errno, want api.Key) {
	t.Helper()
	if e != api.OK || !sameKey(got, want) {
		t.Errorf("%s: %v, error %d; want %v", what, got, e, want)
	}
}

func wantNumber(t *testing.T, what string, got int, e api.Errno, want int) {
	t.Helper()
	if e != api.OK || got != want {
		t.Errorf("%s: %v, error %d; want %v", what, got, e, want)
	}
}

func wantTruth(t *testing.T, what string, got bool, e api.Errno, want bool) {
	t.Helper()
	if e != api.OK || got != want {
		t.Errorf("%s: %v, error %d; want %v", what, got, e, want)
	}
}

// spoil writes over lists.
func spoil(lists ...[]int) {
	for _, l := range lists {
		for i := range l {
			l[i] = -7
		}
		_ = append(l, -7)
	}
}
