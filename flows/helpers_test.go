package flows_test

import (
	"iter"
	"math/rand/v2"
	"slices"
	"testing"

	"noctuary/api"
	"noctuary/flows"
)

const (
	huge = int(^uint(0) >> 1)
	most = 1000000000 // of what may flow along an arc
)

// sample is the net n of the chapter's examples.
func sample() api.Net {
	return net(3, arc(0, 1, 2, 5), arc(1, 0, 0, 4), arc(1, 2, 1, 3), arc(2, 0, 0, 9))
}

// blocked is the sample with nothing along its last arc: it has no flow.
func blocked() api.Net { return changed(func(n *api.Net) { n.Arcs[3] = arc(2, 0, 0, 0) }) }

func net(nodes int, arcs ...api.Arc) api.Net { return api.Net{Nodes: nodes, Arcs: arcs} }

func arc(from, to, lo, hi int) api.Arc { return api.Arc{From: from, To: to, Lo: lo, Hi: hi} }

func span(lo, hi int) api.Span { return api.Span{Lo: lo, Hi: hi} }

// changed is the sample after a change.
func changed(change func(n *api.Net)) api.Net {
	n := sample()
	change(&n)
	return n
}

// numbers returns the numbers from 0 to n - 1.
func numbers(n int) []int {
	var out []int
	for i := range n {
		out = append(out, i)
	}
	return out
}

// times returns a list of n equal numbers.
func times(n, x int) []int { return slices.Repeat([]int{x}, n) }

// ring returns a net in which arcs lead from each node to the next one, as many between two nodes as there may be.
func ring(lo, hi int) api.Net {
	n := net(api.MaxVertices)
	for i := range api.MaxArcs {
		from := i % n.Nodes
		n.Arcs = append(n.Arcs, arc(from, (from+1)%n.Nodes, lo, hi))
	}
	return n
}

// badNets returns nets that are not valid.
func badNets() map[string]api.Net {
	out := map[string]api.Net{
		"nothing":                      {},
		"arcs without nodes":           {Arcs: []api.Arc{{}}},
		"Lo above Hi":                  changed(func(n *api.Net) { n.Arcs[1].Lo = 5 }),
		"Lo and Hi below 0":            changed(func(n *api.Net) { n.Arcs[2].Lo, n.Arcs[2].Hi = -2, -1 }),
		"Lo and Hi above all":          changed(func(n *api.Net) { n.Arcs[2].Lo, n.Arcs[2].Hi = most+1, most+1 }),
		"an arc from a node too many":  changed(func(n *api.Net) { n.Nodes = 2 }),
		"an arc too many":              net(1, slices.Repeat([]api.Arc{{}}, api.MaxArcs+1)...),
		"the last of all arcs is none": net(1, append(slices.Repeat([]api.Arc{{}}, api.MaxArcs-1), arc(0, 1, 0, 0))...),
	}
	for what, x := range fields() {
		for how, bad := range map[string]int{"too small": x.least - 1, "too great": x.most + 1, "the least int": -huge - 1, "the greatest int": huge} {
			out[what+", "+how] = changed(func(n *api.Net) { *x.at(n) = bad })
		}
	}
	return out
}

// field is a number of the sample, with its bounds.
type field struct {
	at          func(n *api.Net) *int
	least, most int
}

func fields() map[string]field {
	return map[string]field{
		"Nodes":         {func(n *api.Net) *int { return &n.Nodes }, 3, api.MaxVertices},
		"From":          {func(n *api.Net) *int { return &n.Arcs[0].From }, 0, 2},
		"To":            {func(n *api.Net) *int { return &n.Arcs[0].To }, 0, 2},
		"Lo":            {func(n *api.Net) *int { return &n.Arcs[0].Lo }, 0, 5},
		"Hi":            {func(n *api.Net) *int { return &n.Arcs[0].Hi }, 2, most},
		"the last From": {func(n *api.Net) *int { return &n.Arcs[3].From }, 0, 2},
		"the last To":   {func(n *api.Net) *int { return &n.Arcs[3].To }, 0, 2},
		"the last Lo":   {func(n *api.Net) *int { return &n.Arcs[3].Lo }, 0, 9},
		"the last Hi":   {func(n *api.Net) *int { return &n.Arcs[3].Hi }, 0, most},
	}
}

// badLists returns lists that are no indices of something of a size.
func badLists(size int) [][]int {
	return [][]int{{-1}, {size}, {0, 0}, {1, 0}, {0, 2, 1}, {0, 1, 2, size}, {-1, 0}, {huge}, {-huge - 1}, {0, huge}, append(numbers(size), size), append(numbers(size), 0), times(api.MaxArcs+1, 0)}
}

func random() *rand.Rand { return rand.New(rand.NewPCG(5, 5)) }

// someNet returns a small net: in about half of all cases one that has a flow, often one with several.
func someNet(r *rand.Rand) api.Net {
	n := net(1 + r.IntN(4))
	for range r.IntN(7) {
		lo := max(0, r.IntN(6)-3)
		n.Arcs = append(n.Arcs, arc(r.IntN(n.Nodes), r.IntN(n.Nodes), lo, min(3, lo+r.IntN(4))))
	}
	return n
}

// greatNet returns a net that has a flow with numbers up to most, with which the bounds of its arcs often have little to spare.
func greatNet(r *rand.Rand, nodes, arcs, most int) api.Net {
	n := net(nodes)
	spare := make([]int, nodes)
	var f []int
	for range arcs - nodes {
		n.Arcs = append(n.Arcs, arc(r.IntN(nodes), r.IntN(nodes), 0, 0))
		f = append(f, r.IntN(most/(2*arcs)))
	}
	for i, a := range n.Arcs {
		spare[a.To] += f[i]
		spare[a.From] -= f[i]
	}
	// What is left over is sent around.
	low, sum := 0, 0
	for node := range nodes {
		sum += spare[node]
		low = min(low, sum)
	}
	sum = -low
	for node := range nodes {
		sum += spare[node]
		n.Arcs = append(n.Arcs, arc(node, (node+1)%nodes, 0, 0))
		f = append(f, sum)
	}
	for i, x := range f {
		n.Arcs[i].Lo = max(0, x-r.IntN(1+most/arcs)*r.IntN(2))
		n.Arcs[i].Hi = x + r.IntN(1+most/arcs)*r.IntN(2)
	}
	return n
}

// someArcs returns any arcs of a net.
func someArcs(r *rand.Rand, n api.Net) []int { return someOf(r, len(n.Arcs)) }

// someOf returns any of the numbers from 0 to size - 1.
func someOf(r *rand.Rand, size int) []int {
	var out []int
	for i := range size {
		if r.IntN(2) == 0 {
			out = append(out, i)
		}
	}
	return out
}

// someHeights returns any heights of a net.
func someHeights(r *rand.Rand, n api.Net) []int {
	var out []int
	for range n.Nodes {
		out = append(out, r.IntN(n.Nodes+1))
	}
	return out
}

// allFlows yields all flows of a small net.
func allFlows(n api.Net) iter.Seq[[]int] {
	return func(yield func([]int) bool) {
		f := make([]int, len(n.Arcs))
		var choose func(i int) bool
		choose = func(i int) bool {
			if i == len(f) {
				return !balanced(n, f) || yield(f)
			}
			for x := n.Arcs[i].Lo; x <= n.Arcs[i].Hi; x++ {
				f[i] = x
				if !choose(i + 1) {
					return false
				}
			}
			return true
		}
		choose(0)
	}
}

// balanced reports whether as much comes to each node as leaves it.
func balanced(n api.Net, f []int) bool {
	for node := range n.Nodes {
		sum := 0
		for i, a := range n.Arcs {
			if a.To == node {
				sum += f[i]
			}
			if a.From == node {
				sum -= f[i]
			}
		}
		if sum != 0 {
			return false
		}
	}
	return true
}

// spanOf returns the bounds of the sum along arcs over all flows of a small net, if there are flows.
func spanOf(n api.Net, arcs []int) (s api.Span, some bool) {
	for f := range allFlows(n) {
		x := sumOf(f, arcs)
		if !some {
			s, some = span(x, x), true
		}
		s = span(min(s.Lo, x), max(s.Hi, x))
	}
	return s, some
}

func sumOf(f, arcs []int) int {
	sum := 0
	for _, i := range arcs {
		sum += f[i]
	}
	return sum
}

func hasFlow(n api.Net) bool {
	for range allFlows(n) {
		return true
	}
	return false
}

// result is what a call returned: its error, and whether there was nothing else.
type result struct {
	e     api.Errno
	empty bool
}

func nothing(e api.Errno) result             { return result{e, true} }
func list(l []int, e api.Errno) result       { return result{e, len(l) == 0} }
func lists(l [][]int, e api.Errno) result    { return result{e, len(l) == 0} }
func number(n int, e api.Errno) result       { return result{e, n == 0} }
func truth(is bool, e api.Errno) result      { return result{e, !is} }
func oneSpan(x api.Span, e api.Errno) result { return result{e, x == api.Span{}} }
func oneNet(n api.Net, e api.Errno) result   { return result{e, n.Nodes == 0 && len(n.Arcs) == 0} }

// withNet returns all functions with a net and no arcs or nodes.
func withNet() map[string]func(n api.Net) result {
	return map[string]func(n api.Net) result{
		"Check":    func(n api.Net) result { return nothing(flows.Check(n)) },
		"Keeps":    func(n api.Net) result { return nothing(flows.Keeps(n, []int{3, 1, 2, 2})) },
		"Feasible": func(n api.Net) result { return truth(flows.Feasible(n)) },
		"Flow":     func(n api.Net) result { return list(flows.Flow(n)) },
		"Cut":      func(n api.Net) result { return list(flows.Cut(n)) },
		"Parts":    func(n api.Net) result { return lists(flows.Parts(n)) },
	}
}

// withArcs returns all functions with a net and arcs; all other arguments are in order for a net with 3 nodes.
func withArcs() map[string]func(n api.Net, arcs []int) result {
	return map[string]func(n api.Net, arcs []int) result{
		"Span":       func(n api.Net, arcs []int) result { return oneSpan(flows.Span(n, arcs)) },
		"Least":      func(n api.Net, arcs []int) result { return list(flows.Least(n, arcs)) },
		"Most":       func(n api.Net, arcs []int) result { return list(flows.Most(n, arcs)) },
		"ProveLeast": func(n api.Net, arcs []int) result { return list(flows.ProveLeast(n, arcs)) },
		"ProveMost":  func(n api.Net, arcs []int) result { return list(flows.ProveMost(n, arcs)) },
		"CheckLeast": func(n api.Net, arcs []int) result { return number(flows.CheckLeast(n, arcs, []int{0, 0, 1})) },
		"CheckMost":  func(n api.Net, arcs []int) result { return number(flows.CheckMost(n, arcs, []int{0, 0, 1})) },
		"Without":    func(n api.Net, arcs []int) result { return oneNet(flows.Without(n, arcs)) },
		"Relax":      func(n api.Net, arcs []int) result { return oneNet(flows.Relax(n, arcs)) },
		"May":        func(n api.Net, arcs []int) result { return truth(flows.May(n, arcs)) },
		"Must":       func(n api.Net, arcs []int) result { return truth(flows.Must(n, arcs)) },
	}
}

// functions returns all functions with a net; all other arguments are in order for the sample, but for those of "bad".
func functions() map[string]func(n api.Net) result {
	out := withNet()
	for name, of := range withArcs() {
		out[name] = func(n api.Net) result { return of(n, []int{2, 3}) }
		out[name+" of bad arcs"] = func(n api.Net) result { return of(n, []int{3, 2}) }
	}
	out["CheckCut"] = func(n api.Net) result { return number(flows.CheckCut(n, []int{0, 1})) }
	out["CheckCut of bad nodes"] = func(n api.Net) result { return number(flows.CheckCut(n, []int{-1})) }
	out["Keeps of no flow"] = func(n api.Net) result { return nothing(flows.Keeps(n, nil)) }
	out["CheckLeast of bad heights"] = func(n api.Net) result { return number(flows.CheckLeast(n, nil, nil)) }
	out["CheckMost of bad heights"] = func(n api.Net) result { return number(flows.CheckMost(n, nil, nil)) }
	return out
}

// wantError checks that a call returns an error, and nothing else.
func wantError(t *testing.T, what string, got result, want api.Errno) {
	t.Helper()
	if got.e != want || !got.empty {
		t.Errorf("%s: error %d, other results empty: %v; want error %d alone", what, got.e, got.empty, want)
	}
}

// wantSame checks the result of a call that must not fail.
func wantSame[T comparable](t *testing.T, what string, got T, e api.Errno, want T) {
	t.Helper()
	if e != api.OK || got != want {
		t.Errorf("%s: %v, error %d; want %v", what, got, e, want)
	}
}

// wantFlow checks that a call returned a flow of a net, and its sum along arcs.
func wantFlow(t *testing.T, what string, n api.Net, arcs, f []int, e api.Errno, sum int) {
	t.Helper()
	if e != api.OK || !isFlow(n, f) || sumOf(f, arcs) != sum {
		t.Errorf("%s: %v, error %d; want a flow with the sum %d along %v", what, f, e, sum, arcs)
	}
}

// isFlow is Keeps by its definition.
func isFlow(n api.Net, f []int) bool {
	if len(f) != len(n.Arcs) {
		return false
	}
	for i, a := range n.Arcs {
		if f[i] < a.Lo || f[i] > a.Hi {
			return false
		}
	}
	in, out := make([]int, n.Nodes), make([]int, n.Nodes)
	for i, a := range n.Arcs {
		in[a.To] += f[i]
		out[a.From] += f[i]
	}
	return slices.Equal(in, out)
}

func sameNet(a, b api.Net) bool { return a.Nodes == b.Nodes && slices.Equal(a.Arcs, b.Arcs) }

// copyOf returns a net in memory of its own.
func copyOf(n api.Net) api.Net { return net(n.Nodes, slices.Clone(n.Arcs)...) }

// eachNet calls a test with many small nets and arcs of them, until it fails.
func eachNet(t *testing.T, do func(r *rand.Rand, n api.Net, arcs []int)) {
	t.Helper()
	r := random()
	for range 3000 {
		n := someNet(r)
		arcs := someArcs(r, n)
		do(r, n, arcs)
		if t.Failed() {
			t.Fatalf("the net was %v, the arcs were %v", n, arcs)
		}
	}
}

// eachFlowing is eachNet with the nets that have a flow alone.
func eachFlowing(t *testing.T, do func(r *rand.Rand, n api.Net, arcs []int)) {
	t.Helper()
	count := 0
	eachNet(t, func(r *rand.Rand, n api.Net, arcs []int) {
		if hasFlow(n) {
			count++
			do(r, n, arcs)
		}
	})
	if count < 1000 || count > 2500 {
		t.Errorf("%d of 3000 nets have a flow", count)
	}
}
