package flows

import (
	"slices"

	"noctuary/api"
)

// Cut returns nodes that prove that there is no flow: those that what others have to spare cannot reach.
func Cut(n api.Net) ([]int, api.Errno) {
	if e := Check(n); e != api.OK {
		return nil, e
	}
	m := netOf(n, prices(n, nil, 0))
	if m.settle() {
		return nil, api.ErrNone
	}
	far := unreached(n.Nodes)
	m.spread(m.rich(), far, m.open)
	var out []int
	for node, steps := range far {
		if steps == none {
			out = append(out, node)
		}
	}
	return out, api.OK
}

// CheckCut returns by how much nodes prove that there is no flow.
func CheckCut(n api.Net, nodes []int) (int, api.Errno) {
	if e := checkList(n, nodes, n.Nodes); e != api.OK {
		return 0, e
	}
	inside := make([]bool, n.Nodes)
	for _, node := range nodes {
		inside[node] = true
	}
	excess := 0
	for _, a := range n.Arcs {
		switch {
		case inside[a.From] && !inside[a.To]:
			excess += a.Lo
		case inside[a.To] && !inside[a.From]:
			excess -= a.Hi
		}
	}
	if excess <= 0 {
		return 0, api.ErrCut
	}
	return excess, api.OK
}

// ProveLeast returns heights that prove the least sum along arcs from below.
func ProveLeast(n api.Net, arcs []int) ([]int, api.Errno) {
	m, e := cheapest(n, arcs, 1)
	if e != api.OK {
		return nil, e
	}
	return m.heights, api.OK
}

// ProveMost returns heights that prove the greatest sum along arcs from above. What is gained costs less than nothing, so the drops of the chapter are those of the net the other way round.
func ProveMost(n api.Net, arcs []int) ([]int, api.Errno) {
	m, e := cheapest(n, arcs, -1)
	if e != api.OK {
		return nil, e
	}
	return upsideDown(m.heights), api.OK
}

// CheckLeast returns what heights prove from below.
func CheckLeast(n api.Net, arcs, heights []int) (int, api.Errno) {
	return proved(n, arcs, heights, func(a api.Arc) (up, down int) { return a.Lo, a.Hi })
}

// CheckMost returns what heights prove from above.
func CheckMost(n api.Net, arcs, heights []int) (int, api.Errno) {
	return proved(n, arcs, heights, func(a api.Arc) (up, down int) { return a.Hi, a.Lo })
}

// proved returns the sum of all drops, each times the bound of its arc for a drop of at least 0 (up), or for one below (down).
func proved(n api.Net, arcs, heights []int, bounds func(a api.Arc) (up, down int)) (int, api.Errno) {
	if e := checkList(n, arcs, len(n.Arcs)); e != api.OK {
		return 0, e
	}
	if !areHeights(n, heights) {
		return 0, api.ErrCut
	}
	cost := prices(n, arcs, 1)
	out := 0
	for i, a := range n.Arcs {
		drop := heights[a.To] - heights[a.From] + cost(2*i)
		up, down := bounds(a)
		if drop < 0 {
			up = down
		}
		out += up * drop
	}
	return out, api.OK
}

// areHeights reports whether a list is heights of a valid net.
func areHeights(n api.Net, l []int) bool {
	for _, x := range l {
		if !between(x, 0, n.Nodes) {
			return false
		}
	}
	return len(l) == n.Nodes
}

// upsideDown returns heights that are as far below the greatest one as the given ones are above 0.
func upsideDown(heights []int) []int {
	top := slices.Max(heights)
	out := make([]int, len(heights))
	for i, x := range heights {
		out[i] = top - x
	}
	return out
}
