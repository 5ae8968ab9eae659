package flows_test

import (
	"slices"
	"testing"

	"noctuary/api"
	"noctuary/flows"
)

// P5.1 (F1): nets that are valid.
func TestCheck(t *testing.T) {
	good := map[string]api.Net{
		"the sample":               sample(),
		"one node":                 net(1),
		"as many nodes as may be":  net(api.MaxVertices),
		"an arc to itself":         net(1, arc(0, 0, 0, most)),
		"several arcs":             net(2, arc(0, 1, 1, 1), arc(0, 1, 1, 1), arc(1, 0, 0, 0)),
		"a net without a flow":     blocked(),
		"the greatest":             ring(most, most),
		"one node, as many arcs":   net(1, slices.Repeat([]api.Arc{{}}, api.MaxArcs)...),
		"arcs that are not sorted": net(3, arc(2, 1, 0, 1), arc(0, 1, 0, 1), arc(2, 0, 0, 1)),
	}
	for what, n := range good {
		if e := flows.Check(n); e != api.OK {
			t.Errorf("Check of %s: error %d", what, e)
		}
	}
	for what, x := range fields() {
		for _, edge := range []int{x.least, x.most} {
			if e := flows.Check(changed(func(n *api.Net) { *x.at(n) = edge })); e != api.OK {
				t.Errorf("Check of the %s %d: error %d", what, edge, e)
			}
		}
	}
}

// P5.1: ErrNet, alone, in all functions with a net; ahead of ErrArg and all others.
func TestErrNet(t *testing.T) {
	for name, of := range functions() {
		for what, n := range badNets() {
			wantError(t, name+" of "+what, of(n), api.ErrNet)
		}
	}
}

// P5.1: ErrArg, alone, in all functions with arcs or nodes; ahead of ErrTight and ErrCut.
func TestErrArg(t *testing.T) {
	for _, n := range []api.Net{sample(), blocked()} {
		for _, l := range badLists(len(n.Arcs)) {
			for name, of := range withArcs() {
				wantError(t, name, of(n, l), api.ErrArg)
			}
			wantError(t, "CheckLeast of bad arcs and heights", number(flows.CheckLeast(n, l, nil)), api.ErrArg)
			wantError(t, "CheckMost of bad arcs and heights", number(flows.CheckMost(n, l, nil)), api.ErrArg)
		}
		for _, l := range badLists(n.Nodes) {
			wantError(t, "CheckCut", number(flows.CheckCut(n, l)), api.ErrArg)
		}
	}
	for name, of := range withArcs() {
		wantError(t, name+" of a net without arcs", of(net(3), []int{0}), api.ErrArg)
	}
}

// P5.1: ErrTight, alone, if the net has no flow, whatever the arcs; other functions do not return it.
func TestErrTight(t *testing.T) {
	tight := map[string]bool{"Span": true, "Least": true, "Most": true, "ProveLeast": true, "ProveMost": true, "May": true, "Must": true}
	for name, of := range withArcs() {
		for _, arcs := range [][]int{nil, {0}, {2, 3}, {0, 1, 2, 3}} {
			if tight[name] {
				wantError(t, name, of(blocked(), arcs), api.ErrTight)
			} else if x := of(blocked(), arcs); x.e != api.OK {
				t.Errorf("%s of a net without a flow: error %d", name, x.e)
			}
		}
	}
	wantError(t, "Flow", list(flows.Flow(blocked())), api.ErrTight)
	is, e := flows.Feasible(blocked())
	wantSame(t, "Feasible", is, e, false)
}

// P5.1 (F2).
func TestKeeps(t *testing.T) {
	n := sample()
	good := [][]int{{3, 1, 2, 2}, {2, 0, 2, 2}, {5, 4, 1, 1}, {5, 2, 3, 3}, {2, 1, 1, 1}}
	for _, f := range good {
		if e := flows.Keeps(n, f); e != api.OK {
			t.Errorf("Keeps of %v: error %d", f, e)
		}
	}
	bad := [][]int{
		nil, {3, 1, 2}, {3, 1, 2, 2, 0}, {0, 0, 0, 0}, // another length, or below Lo
		{3, 1, 2, 1}, {3, 2, 2, 2}, {4, 1, 2, 2}, {3, 1, 3, 2}, // sums that are not the same
		{1, 0, 1, 1}, {6, 3, 3, 3}, {5, 5, 0, 0}, {5, 0, 5, 5}, {2, -1, 3, 3}, // beyond the bounds of an arc
		{huge, huge, 0, 0}, {-huge - 1, 0, 0, 0}, {huge, -huge - 1, -1, -1},
	}
	for _, f := range bad {
		wantError(t, "Keeps", nothing(flows.Keeps(n, f)), api.ErrFlow)
	}
	self := net(2, arc(1, 1, 2, 4))
	wantError(t, "Keeps of an arc to itself", nothing(flows.Keeps(self, []int{1})), api.ErrFlow)
	if e := flows.Keeps(self, []int{3}); e != api.OK {
		t.Errorf("Keeps of an arc to itself: error %d", e)
	}
	if e := flows.Keeps(net(2), nil); e != api.OK {
		t.Errorf("Keeps of a net without arcs: error %d", e)
	}
	great := ring(0, most)
	if e := flows.Keeps(great, times(api.MaxArcs, most)); e != api.OK {
		t.Errorf("Keeps of the greatest flow: error %d", e)
	}
}

// P5.1 (F2): against the definition, with numbers that are near a flow.
func TestKeepsOfAll(t *testing.T) {
	r := random()
	good := 0
	for range 20000 {
		n := someNet(r)
		f := make([]int, len(n.Arcs))
		for i, a := range n.Arcs {
			f[i] = a.Lo + r.IntN(a.Hi-a.Lo+1)
			if r.IntN(9) == 0 {
				f[i] += 1 - 2*r.IntN(2)
			}
		}
		want := api.ErrFlow
		if isFlow(n, f) {
			want = api.OK
			good++
		}
		if e := flows.Keeps(n, f); e != want {
			t.Fatalf("Keeps of %v in %v: error %d; want %d", f, n, e, want)
		}
	}
	if good < 1000 {
		t.Errorf("only %d flows", good)
	}
}

// P5.1 (F19).
func TestSum(t *testing.T) {
	f := []int{3, 0, most, 2}
	for _, x := range []struct {
		arcs []int
		want int
	}{{nil, 0}, {[]int{0}, 3}, {[]int{0, 3}, 5}, {[]int{1}, 0}, {[]int{2, 3}, most + 2}, {[]int{0, 1, 2, 3}, most + 5}} {
		n, e := flows.Sum(f, x.arcs)
		wantSame(t, "Sum", n, e, x.want)
	}
	n, e := flows.Sum(nil, nil)
	wantSame(t, "Sum of nothing", n, e, 0)
	n, e = flows.Sum(times(api.MaxArcs, most), numbers(api.MaxArcs))
	wantSame(t, "the greatest Sum", n, e, api.MaxArcs*most)

	for _, l := range badLists(len(f)) {
		wantError(t, "Sum", number(flows.Sum(f, l)), api.ErrArg)
	}
	wantError(t, "Sum of no numbers", number(flows.Sum(nil, []int{0})), api.ErrArg)
	for _, bad := range [][]int{{-1}, {most + 1}, {huge}, {-huge - 1}, {1, 2, -1}, times(api.MaxArcs+1, 0)} {
		for _, arcs := range [][]int{nil, {0}, {1, 0}, {-1}} {
			wantError(t, "Sum of no flow", number(flows.Sum(bad, arcs)), api.ErrFlow)
		}
	}
}

// P5.1: arguments are not changed (R7).
func TestArguments(t *testing.T) {
	for name, of := range functions() {
		for _, n := range []api.Net{sample(), blocked()} {
			before := copyOf(n)
			of(n)
			if !sameNet(n, before) {
				t.Errorf("%s changes its net: %v", name, n)
			}
		}
	}
	for name, of := range withArcs() {
		arcs := []int{1, 2, 3}
		of(sample(), arcs)
		if !slices.Equal(arcs, []int{1, 2, 3}) {
			t.Errorf("%s changes its arcs: %v", name, arcs)
		}
	}
	nodes, heights := []int{0, 1}, []int{1, 0, 1}
	flows.CheckCut(blocked(), nodes)
	flows.CheckLeast(sample(), nodes, heights)
	flows.CheckMost(sample(), nodes, heights)
	if !slices.Equal(nodes, []int{0, 1}) || !slices.Equal(heights, []int{1, 0, 1}) {
		t.Errorf("nodes %v, heights %v", nodes, heights)
	}
}

// P5.1: results are new memory (R7).
func TestMemory(t *testing.T) {
	for name, change := range map[string]func(n api.Net, arcs []int) (api.Net, api.Errno){"Without": flows.Without, "Relax": flows.Relax} {
		for _, arcs := range [][]int{nil, {1}} {
			n := sample()
			got, e := change(n, arcs)
			if e != api.OK {
				t.Fatalf("%s: error %d", name, e)
			}
			for i := range got.Arcs {
				got.Arcs[i] = arc(-7, -7, -7, -7)
			}
			_ = append(got.Arcs, arc(-7, -7, -7, -7))
			if !sameNet(n, sample()) {
				t.Errorf("%s shares memory with its net: %v", name, n)
			}
		}
	}
	parts, e := flows.Parts(net(5, arc(0, 3, 0, 1), arc(1, 4, 0, 1)))
	if e != api.OK || len(parts) != 3 {
		t.Fatalf("Parts: %v, error %d", parts, e)
	}
	for i := range parts {
		_ = append(parts[i], -7)
		for k := range parts[i] {
			parts[i][k] = -7 - i
		}
	}
	if !slices.EqualFunc(parts, [][]int{{-7, -7}, {-8, -8}, {-9}}, slices.Equal) {
		t.Errorf("parts share memory: %v", parts)
	}
}
