package flows_test

import (
	"math/rand/v2"
	"slices"
	"testing"

	"noctuary/api"
	"noctuary/flows"
)

// P5.1 (F3, F4), P5.2: the chapter's examples, and nets of special shapes.
func TestFlow(t *testing.T) {
	cases := []struct {
		what string
		n    api.Net
		has  bool
	}{
		{"the sample", sample(), true},
		{"the sample, blocked", blocked(), false},
		{"one node", net(1), true},
		{"many nodes", net(api.MaxVertices), true},
		{"an arc to itself", net(1, arc(0, 0, 3, 5)), true},
		{"two arcs to themselves", net(2, arc(1, 1, most, most), arc(0, 0, 1, 1)), true},
		{"an arc that leads nowhere", net(2, arc(0, 1, 0, 9)), true},
		{"one that must not", net(2, arc(0, 1, 1, 9)), false},
		{"there and back", net(2, arc(0, 1, 1, 9), arc(1, 0, 9, 12)), true},
		{"there and not so much back", net(2, arc(0, 1, 1, 9), arc(1, 0, 10, 12)), false},
		{"there and not so much there", net(2, arc(0, 1, 10, 12), arc(1, 0, 1, 9)), false},
		{"several arcs together", net(2, arc(0, 1, 1, 4), arc(0, 1, 2, 5), arc(1, 0, 9, 9)), true},
		{"several arcs, one too little", net(2, arc(0, 1, 1, 4), arc(0, 1, 2, 4), arc(1, 0, 9, 9)), false},
		{"two parts", net(4, arc(0, 1, 1, 4), arc(1, 0, 1, 4), arc(2, 3, 1, 4), arc(3, 2, 1, 4)), true},
		{"two parts, one of which is wrong", net(4, arc(0, 1, 1, 4), arc(1, 0, 1, 4), arc(2, 3, 1, 4), arc(2, 3, 1, 4)), false},
		{"the greatest, all fixed", ring(most, most), true},
	}
	for _, x := range cases {
		is, e := flows.Feasible(x.n)
		wantSame(t, "Feasible of "+x.what, is, e, x.has)
		f, e := flows.Flow(x.n)
		if !x.has {
			wantError(t, "Flow of "+x.what, list(f, e), api.ErrTight)
			continue
		}
		wantFlow(t, "Flow of "+x.what, x.n, nil, f, e, 0)
		wantError(t, "Cut of "+x.what, list(flows.Cut(x.n)), api.ErrNone)
	}
}

// P5.1 (F3, F4, F5, F6), P5.2: against all flows of small nets, and all sets of their nodes.
func TestFlowOfAll(t *testing.T) {
	without := 0
	eachNet(t, func(_ *rand.Rand, n api.Net, _ []int) {
		has := hasFlow(n)
		is, e := flows.Feasible(n)
		wantSame(t, "Feasible", is, e, has)
		f, e := flows.Flow(n)
		cut, cutError := flows.Cut(n)
		if has {
			wantFlow(t, "Flow", n, nil, f, e, 0)
			wantError(t, "Cut", list(cut, cutError), api.ErrNone)
			if e := flows.Keeps(n, f); e != api.OK {
				t.Errorf("Keeps of Flow: error %d", e)
			}
		} else {
			without++
			wantError(t, "Flow", list(f, e), api.ErrTight)
			x, e := flows.CheckCut(n, cut)
			if cutError != api.OK || e != api.OK || x != excess(n, cut) || x <= 0 {
				t.Errorf("Cut: %v, error %d; its excess: %d, error %d", cut, cutError, x, e)
			}
		}
		proof := false
		for set := range 1 << n.Nodes {
			x, e := flows.CheckCut(n, nodesOf(set))
			if want := excess(n, nodesOf(set)); want > 0 {
				wantSame(t, "CheckCut", x, e, want)
				proof = true
			} else {
				wantError(t, "CheckCut", number(x, e), api.ErrCut)
			}
		}
		if proof == has {
			t.Errorf("a flow: %v, nodes that prove that there is none: %v", has, proof)
		}
	})
	if without < 500 {
		t.Errorf("only %d nets without a flow", without)
	}
}

// excess is that of nodes by the definition.
func excess(n api.Net, nodes []int) int {
	sum := 0
	for _, a := range n.Arcs {
		from, to := slices.Contains(nodes, a.From), slices.Contains(nodes, a.To)
		if from && !to {
			sum += a.Lo
		}
		if to && !from {
			sum -= a.Hi
		}
	}
	return sum
}

// nodesOf returns the nodes of which a bit is set.
func nodesOf(set int) []int {
	var out []int
	for node := range 10 {
		if set>>node&1 == 1 {
			out = append(out, node)
		}
	}
	return out
}

// P5.1 (F6): the chapter's examples, and the greatest excess.
func TestCheckCut(t *testing.T) {
	x, e := flows.CheckCut(blocked(), []int{0, 1})
	wantSame(t, "CheckCut", x, e, 1)
	for _, nodes := range [][]int{nil, {0}, {1}, {2}, {0, 2}, {1, 2}, {0, 1, 2}} {
		wantError(t, "CheckCut", number(flows.CheckCut(blocked(), nodes)), api.ErrCut)
	}
	wantError(t, "CheckCut of nodes with the excess 0", number(flows.CheckCut(net(2, arc(0, 1, 2, 2), arc(1, 0, 0, 2)), []int{0})), api.ErrCut)
	away := net(2, slices.Repeat([]api.Arc{arc(0, 1, most, most)}, api.MaxArcs)...)
	x, e = flows.CheckCut(away, []int{0})
	wantSame(t, "CheckCut", x, e, api.MaxArcs*most)
	wantError(t, "CheckCut", number(flows.CheckCut(away, []int{1})), api.ErrCut)
	cut, e := flows.Cut(away)
	if e != api.OK || !slices.Equal(cut, []int{0}) {
		t.Errorf("Cut: %v, error %d", cut, e)
	}
}

// P5.1 (F7, F8, F9): the chapter's examples.
func TestSpan(t *testing.T) {
	cases := []struct {
		arcs []int
		want api.Span
	}{
		{[]int{2}, span(1, 3)}, {[]int{1}, span(0, 4)}, {[]int{0}, span(2, 5)}, {[]int{3}, span(1, 3)}, {[]int{2, 3}, span(2, 6)},
		{nil, span(0, 0)}, {[]int{1, 2}, span(2, 5)}, {[]int{0, 1, 2, 3}, span(5, 13)},
	}
	for _, x := range cases {
		s, e := flows.Span(sample(), x.arcs)
		wantSame(t, "Span", s, e, x.want)
		f, e := flows.Least(sample(), x.arcs)
		wantFlow(t, "Least", sample(), x.arcs, f, e, x.want.Lo)
		f, e = flows.Most(sample(), x.arcs)
		wantFlow(t, "Most", sample(), x.arcs, f, e, x.want.Hi)
	}
	s, e := flows.Span(net(1, arc(0, 0, 3, 5), arc(0, 0, 2, most)), []int{0, 1})
	wantSame(t, "Span of arcs to themselves", s, e, span(5, most+5))
	s, e = flows.Span(net(3), nil)
	wantSame(t, "Span of no arcs", s, e, span(0, 0))
}

// P5.1 (F7, F8, F9, F16, F17), P5.3, P5.6: against all flows of small nets.
func TestSpanOfAll(t *testing.T) {
	eachFlowing(t, func(_ *rand.Rand, n api.Net, arcs []int) {
		want, _ := spanOf(n, arcs)
		s, e := flows.Span(n, arcs)
		wantSame(t, "Span", s, e, want)
		f, e := flows.Least(n, arcs)
		wantFlow(t, "Least", n, arcs, f, e, want.Lo)
		x, e := flows.Sum(f, arcs)
		wantSame(t, "Sum of Least", x, e, want.Lo)
		f, e = flows.Most(n, arcs)
		wantFlow(t, "Most", n, arcs, f, e, want.Hi)
		x, e = flows.Sum(f, arcs)
		wantSame(t, "Sum of Most", x, e, want.Hi)
		is, e := flows.May(n, arcs)
		wantSame(t, "May", is, e, want.Hi > 0)
		is, e = flows.Must(n, arcs)
		wantSame(t, "Must", is, e, want.Lo > 0)
	})
}

// P5.1 (F14, F15): nothing else changes.
func TestWithoutAndRelax(t *testing.T) {
	n, e := flows.Without(sample(), []int{3})
	if e != api.OK || !sameNet(n, blocked()) {
		t.Errorf("Without: %v, error %d", n, e)
	}
	n, e = flows.Relax(sample(), []int{0, 2, 3})
	if e != api.OK || !sameNet(n, net(3, arc(0, 1, 0, 5), arc(1, 0, 0, 4), arc(1, 2, 0, 3), arc(2, 0, 0, 9))) {
		t.Errorf("Relax: %v, error %d", n, e)
	}
	eachNet(t, func(_ *rand.Rand, n api.Net, arcs []int) {
		without, relaxed := copyOf(n), copyOf(n)
		for _, i := range arcs {
			without.Arcs[i].Lo, without.Arcs[i].Hi = 0, 0
			relaxed.Arcs[i].Lo = 0
		}
		m, e := flows.Without(n, arcs)
		if e != api.OK || !sameNet(m, without) {
			t.Errorf("Without: %v, error %d", m, e)
		}
		m, e = flows.Relax(n, arcs)
		if e != api.OK || !sameNet(m, relaxed) {
			t.Errorf("Relax: %v, error %d", m, e)
		}
	})
}

// P5.1 (F16, F17): the chapter's examples.
func TestMayAndMust(t *testing.T) {
	cases := []struct {
		arcs      []int
		may, must bool
	}{{[]int{2}, true, true}, {[]int{1}, true, false}, {[]int{3}, true, true}, {[]int{0, 1}, true, true}, {nil, false, false}}
	for _, x := range cases {
		is, e := flows.May(sample(), x.arcs)
		wantSame(t, "May", is, e, x.may)
		is, e = flows.Must(sample(), x.arcs)
		wantSame(t, "Must", is, e, x.must)
	}
	nowhere := net(2, arc(0, 1, 0, 9), arc(1, 1, 0, 0))
	is, e := flows.May(nowhere, []int{0, 1})
	wantSame(t, "May", is, e, false)
}

// P5.1 (F18): the chapter's example, and other nets.
func TestParts(t *testing.T) {
	cases := []struct {
		what string
		n    api.Net
		want [][]int
	}{
		{"the example", net(3, arc(2, 0, 0, 1)), [][]int{{0, 2}, {1}}},
		{"the sample", sample(), [][]int{{0, 1, 2}}},
		{"one node", net(1), [][]int{{0}}},
		{"no arcs", net(3), [][]int{{0}, {1}, {2}}},
		{"an arc to itself", net(2, arc(1, 1, 0, 1)), [][]int{{0}, {1}}},
		{"arcs along which nothing flows", net(3, arc(0, 1, 0, 0)), [][]int{{0, 1}, {2}}},
		{"an arc that has no flow", net(3, arc(2, 1, 5, 5)), [][]int{{0}, {1, 2}}},
		{"a row, back and forth", net(6, arc(5, 3, 0, 1), arc(0, 4, 0, 1), arc(3, 1, 0, 1), arc(1, 0, 0, 1)), [][]int{{0, 1, 3, 4, 5}, {2}}},
		{"two parts that mix", net(6, arc(5, 3, 0, 1), arc(0, 4, 0, 1), arc(3, 1, 0, 1), arc(2, 0, 0, 1)), [][]int{{0, 2, 4}, {1, 3, 5}}},
		{"the greatest ring", ring(1, 1), [][]int{numbers(api.MaxVertices)}},
	}
	for _, x := range cases {
		l, e := flows.Parts(x.n)
		if e != api.OK || !slices.EqualFunc(l, x.want, slices.Equal) {
			t.Errorf("Parts of %s: %v, error %d; want %v", x.what, l, e, x.want)
		}
	}
	l, e := flows.Parts(net(api.MaxVertices))
	if e != api.OK || len(l) != api.MaxVertices {
		t.Errorf("%d parts of nodes alone, error %d", len(l), e)
	}
}

// P5.1 (F18): against labels that arcs make equal.
func TestPartsOfAll(t *testing.T) {
	eachNet(t, func(_ *rand.Rand, n api.Net, _ []int) {
		part := numbers(n.Nodes)
		for range n.Nodes {
			for _, a := range n.Arcs {
				least := min(part[a.From], part[a.To])
				part[a.From], part[a.To] = least, least
			}
		}
		var want [][]int
		for first := range n.Nodes {
			var l []int
			for node, x := range part {
				if x == first {
					l = append(l, node)
				}
			}
			if len(l) > 0 {
				want = append(want, l)
			}
		}
		l, e := flows.Parts(n)
		if e != api.OK || !slices.EqualFunc(l, want, slices.Equal) {
			t.Errorf("Parts: %v, error %d; want %v", l, e, want)
		}
	})
}

// P5.5: greater Lo and lesser Hi make no Span wider.
func TestNarrower(t *testing.T) {
	narrowed := 0
	eachFlowing(t, func(r *rand.Rand, n api.Net, arcs []int) {
		m := copyOf(n)
		for _, i := range someArcs(r, n) {
			a := n.Arcs[i]
			x, y := a.Lo+r.IntN(a.Hi-a.Lo+1), a.Lo+r.IntN(a.Hi-a.Lo+1)
			m.Arcs[i].Lo, m.Arcs[i].Hi = min(x, y), max(x, y)
		}
		wide, e := flows.Span(n, arcs)
		narrow, f := flows.Span(m, arcs)
		if f == api.ErrTight {
			return
		}
		if e != api.OK || f != api.OK || narrow.Lo < wide.Lo || narrow.Hi > wide.Hi {
			t.Errorf("Span: %v, error %d; narrower: %v, error %d", wide, e, narrow, f)
		}
		if narrow != wide {
			narrowed++
		}
	})
	if narrowed < 100 {
		t.Errorf("only %d were narrower", narrowed)
	}
}

// P5.5: Without and Relax.
func TestSpanWithoutAndRelaxed(t *testing.T) {
	earlier := 0
	eachFlowing(t, func(_ *rand.Rand, n api.Net, arcs []int) {
		s, _ := flows.Span(n, arcs)
		m, _ := flows.Without(n, arcs)
		none, e := flows.Span(m, arcs)
		if e != api.ErrTight {
			wantSame(t, "Span without", none, e, span(0, 0))
		}
		m, _ = flows.Relax(n, arcs)
		relaxed, e := flows.Span(m, arcs)
		if e != api.OK || relaxed.Lo > s.Lo || relaxed.Hi < s.Hi {
			t.Errorf("Span: %v; relaxed: %v, error %d", s, relaxed, e)
		}
		if relaxed.Lo < s.Lo {
			earlier++
		}
	})
	if earlier < 100 {
		t.Errorf("only %d begin earlier", earlier)
	}
}

// P5.6: what must flow, and what may.
func TestMustAndWithout(t *testing.T) {
	eachFlowing(t, func(r *rand.Rand, n api.Net, arcs []int) {
		must, e := flows.Must(n, arcs)
		without, _ := flows.Without(n, arcs)
		has, _ := flows.Feasible(without)
		low := slices.ContainsFunc(arcs, func(i int) bool { return n.Arcs[i].Lo > 0 })
		wantSame(t, "Must", must, e, low || !has)
		may, e := flows.May(n, arcs)
		if e != api.OK || must && !may {
			t.Errorf("Must: %v, May: %v", must, may)
		}
		more := slices.Concat(arcs, someArcs(r, n))
		slices.Sort(more)
		more = slices.Compact(more)
		moreMust, _ := flows.Must(n, more)
		moreMay, _ := flows.May(n, more)
		if must && !moreMust || may && !moreMay {
			t.Errorf("Must: %v, May: %v; with more arcs: %v, %v", must, may, moreMust, moreMay)
		}
	})
}

// P5.7: each node and arc is in one part, and the bounds of all are those of the parts, added.
func TestSpanOfParts(t *testing.T) {
	several := 0
	eachFlowing(t, func(_ *rand.Rand, n api.Net, _ []int) {
		parts, e := flows.Parts(n)
		if e != api.OK {
			t.Fatalf("Parts: error %d", e)
		}
		all := slices.Concat(parts...)
		slices.Sort(all)
		if !slices.Equal(all, numbers(n.Nodes)) {
			t.Errorf("Parts: %v", parts)
		}
		sum := api.Span{}
		for _, part := range parts {
			var arcs []int
			for i, a := range n.Arcs {
				if slices.Contains(part, a.From) != slices.Contains(part, a.To) {
					t.Errorf("Parts: %v", parts)
				}
				if slices.Contains(part, a.From) {
					arcs = append(arcs, i)
				}
			}
			s, _ := flows.Span(n, arcs)
			sum = span(sum.Lo+s.Lo, sum.Hi+s.Hi)
		}
		s, e := flows.Span(n, numbers(len(n.Arcs)))
		wantSame(t, "Span", s, e, sum)
		if len(parts) > 1 && s.Lo > 0 {
			several++
		}
	})
	if several < 100 {
		t.Errorf("only %d nets with several parts", several)
	}
}

// P5.8: two flows, added; arcs and further ones.
func TestSums(t *testing.T) {
	eachFlowing(t, func(r *rand.Rand, n api.Net, arcs []int) {
		one, _ := flows.Least(n, arcs)
		other, _ := flows.Most(n, someArcs(r, n))
		double := copyOf(n)
		for i := range n.Arcs {
			double.Arcs[i].Lo *= 2
			double.Arcs[i].Hi *= 2
			one[i] += other[i]
		}
		if e := flows.Keeps(double, one); e != api.OK {
			t.Errorf("Keeps of two flows: error %d", e)
		}
		var further []int
		for i := range n.Arcs {
			if !slices.Contains(arcs, i) && r.IntN(2) == 0 {
				further = append(further, i)
			}
		}
		both := slices.Concat(arcs, further)
		slices.Sort(both)
		a, _ := flows.Span(n, arcs)
		b, _ := flows.Span(n, further)
		s, e := flows.Span(n, both)
		if e != api.OK || s.Lo < a.Lo+b.Lo || s.Hi > a.Hi+b.Hi {
			t.Errorf("Span: %v, %v; both: %v, error %d", a, b, s, e)
		}
	})
}
