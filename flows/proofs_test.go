package flows_test

import (
	"math/rand/v2"
	"slices"
	"testing"

	"noctuary/api"
	"noctuary/flows"
)

// P5.1 (F12, F13): the chapter's examples.
func TestCheckLeastAndCheckMost(t *testing.T) {
	cases := []struct {
		heights     []int
		below, over int
	}{{[]int{1, 0, 1}, -3, 17}, {[]int{0, 0, 1}, 2, 6}, {[]int{1, 1, 0}, 0, 18}, {[]int{0, 0, 0}, 1, 12}, {[]int{3, 3, 3}, 1, 12}}
	for _, x := range cases {
		n, e := flows.CheckLeast(sample(), []int{2, 3}, x.heights)
		wantSame(t, "CheckLeast", n, e, x.below)
		n, e = flows.CheckMost(sample(), []int{2, 3}, x.heights)
		wantSame(t, "CheckMost", n, e, x.over)
	}
	n, e := flows.CheckLeast(blocked(), nil, []int{0, 1, 3})
	wantSame(t, "CheckLeast of a net without a flow", n, e, 2*1-4+1*2)
	n, e = flows.CheckMost(blocked(), nil, []int{0, 1, 3})
	wantSame(t, "CheckMost of a net without a flow", n, e, 5*1-0+3*2)
}

// P5.1 (F12, F13): ErrCut.
func TestBadHeights(t *testing.T) {
	for _, n := range []api.Net{sample(), blocked()} {
		for _, l := range [][]int{nil, {0}, {0, 0}, {0, 0, 0, 0}, {0, 0, 4}, {4, 0, 0}, {-1, 0, 0}, {0, 0, -1}, {0, huge, 0}, {0, -huge - 1, 0}} {
			wantError(t, "CheckLeast", number(flows.CheckLeast(n, []int{2}, l)), api.ErrCut)
			wantError(t, "CheckMost", number(flows.CheckMost(n, []int{2}, l)), api.ErrCut)
		}
	}
	for _, l := range [][]int{{3, 0, 0}, {0, 3, 3}, {0, 0, 0}} {
		if x, y := number(flows.CheckLeast(sample(), nil, l)), number(flows.CheckMost(sample(), nil, l)); x.e != api.OK || y.e != api.OK {
			t.Errorf("heights %v: errors %d, %d", l, x.e, y.e)
		}
	}
}

// provedBy returns what heights prove from below and from above, by the definition.
func provedBy(n api.Net, arcs, heights []int) (below, above int) {
	for i, a := range n.Arcs {
		drop := heights[a.To] - heights[a.From]
		if slices.Contains(arcs, i) {
			drop++
		}
		below += min(a.Lo*drop, a.Hi*drop)
		above += max(a.Lo*drop, a.Hi*drop)
	}
	return below, above
}

// P5.1 (F10 to F13), P5.4: what is proved are the ends of Span, and no heights prove more.
func TestProofs(t *testing.T) {
	eachFlowing(t, func(r *rand.Rand, n api.Net, arcs []int) {
		want, _ := spanOf(n, arcs)
		low, e := flows.ProveLeast(n, arcs)
		if e != api.OK {
			t.Fatalf("ProveLeast: error %d", e)
		}
		x, e := flows.CheckLeast(n, arcs, low)
		wantSame(t, "CheckLeast of ProveLeast", x, e, want.Lo)
		high, e := flows.ProveMost(n, arcs)
		if e != api.OK {
			t.Fatalf("ProveMost: error %d", e)
		}
		x, e = flows.CheckMost(n, arcs, high)
		wantSame(t, "CheckMost of ProveMost", x, e, want.Hi)
		for range 5 {
			heights := someHeights(r, n)
			below, above := provedBy(n, arcs, heights)
			x, e := flows.CheckLeast(n, arcs, heights)
			wantSame(t, "CheckLeast", x, e, below)
			y, e := flows.CheckMost(n, arcs, heights)
			wantSame(t, "CheckMost", y, e, above)
			if x > want.Lo || y < want.Hi {
				t.Errorf("heights %v prove %d and %d", heights, x, y)
			}
		}
	})
}

// wantProved checks all functions that tell bounds against one another: a flow with a sum, and heights that prove it, leave nothing open.
func wantProved(t *testing.T, what string, n api.Net, arcs []int) api.Span {
	t.Helper()
	s, e := flows.Span(n, arcs)
	if e != api.OK {
		t.Fatalf("Span of %s: error %d", what, e)
	}
	f, e := flows.Least(n, arcs)
	wantFlow(t, "Least of "+what, n, arcs, f, e, s.Lo)
	f, e = flows.Most(n, arcs)
	wantFlow(t, "Most of "+what, n, arcs, f, e, s.Hi)
	heights, _ := flows.ProveLeast(n, arcs)
	x, e := flows.CheckLeast(n, arcs, heights)
	wantSame(t, "CheckLeast of "+what, x, e, s.Lo)
	heights, _ = flows.ProveMost(n, arcs)
	x, e = flows.CheckMost(n, arcs, heights)
	wantSame(t, "CheckMost of "+what, x, e, s.Hi)
	return s
}

// P5.3, P5.4: greater nets, with one arc, a few or many of them.
func TestProofsOfGreaterNets(t *testing.T) {
	r := random()
	for i := range 300 {
		nodes := 2 + r.IntN(30)
		n := greatNet(r, nodes, 2*nodes+r.IntN(60), 1<<(10+r.IntN(20)))
		arcs := someArcs(r, n)
		switch i % 3 {
		case 0:
			arcs = []int{r.IntN(len(n.Arcs))}
		case 1:
			arcs = arcs[:r.IntN(min(5, len(arcs)+1))]
		}
		wantProved(t, "a net", n, arcs)
		if t.Failed() {
			t.Fatalf("the net was %v, the arcs were %v", n, arcs)
		}
	}
}

// P5.4: heights up to those of the longest way.
func TestHighProofs(t *testing.T) {
	chain := net(api.MaxVertices)
	for node := range chain.Nodes {
		chain.Arcs = append(chain.Arcs, arc(node, (node+1)%chain.Nodes, 0, most))
	}
	chain.Arcs[7].Lo, chain.Arcs[1234].Hi = 3, 10
	if s := wantProved(t, "a chain", chain, numbers(chain.Nodes)); s != span(3*chain.Nodes, 10*chain.Nodes) {
		t.Errorf("Span of a chain: %v", s)
	}
	// Two ways, one shorter by a node and with little room.
	chain.Arcs = append(chain.Arcs, arc(0, 2, 0, 1))
	if s := wantProved(t, "two ways", chain, numbers(len(chain.Arcs))); s != span(3*chain.Nodes-1, 10*chain.Nodes) {
		t.Errorf("Span of two ways: %v", s)
	}
}

// P5.1 (R1): the greatest nets.
func TestGreatestNets(t *testing.T) {
	all := numbers(api.MaxArcs)
	if s := wantProved(t, "a fixed ring", ring(most, most), all); s != span(api.MaxArcs*most, api.MaxArcs*most) {
		t.Errorf("Span of a fixed ring: %v", s)
	}
	if s := wantProved(t, "a free ring", ring(0, most), all); s != span(0, api.MaxArcs*most) {
		t.Errorf("Span of a free ring: %v", s)
	}
	r := random()
	n := greatNet(r, api.MaxVertices, api.MaxArcs, most)
	if e := flows.Check(n); e != api.OK {
		t.Fatalf("Check: error %d", e)
	}
	wantProved(t, "a great net", n, all)
	wantProved(t, "a great net", n, someArcs(r, n))
	wantProved(t, "a great net", n, []int{4000})
	short := copyOf(n)
	for i := range short.Arcs {
		short.Arcs[i].Lo = short.Arcs[i].Hi
	}
	wantCut(t, "a great net without a flow", short)
	full := ring(most, most)
	full.Arcs[4321].Lo, full.Arcs[4321].Hi = 0, most-1
	wantCut(t, "a ring with one arc that has too little", full)
}

// wantCut checks that a net has no flow.
func wantCut(t *testing.T, what string, n api.Net) {
	t.Helper()
	is, e := flows.Feasible(n)
	wantSame(t, "Feasible of "+what, is, e, false)
	wantError(t, "Span of "+what, oneSpan(flows.Span(n, numbers(len(n.Arcs)))), api.ErrTight)
	cut, e := flows.Cut(n)
	if e != api.OK {
		t.Fatalf("Cut of %s: error %d", what, e)
	}
	if x, e := flows.CheckCut(n, cut); e != api.OK || x != excess(n, cut) {
		t.Errorf("CheckCut of %s: %d, error %d", what, x, e)
	}
}
