package flows

import (
	"iter"
	"slices"

	"noctuary/api"
)

// net is a net in which a flow is sought that costs least. At any time no step that is open is cheaper than what the heights give back for it (its drop is at least 0): thus, as soon as no node has anything to spare, the numbers are such a flow, and the heights prove it.
type net struct {
	left
	cost    func(step int) int // what one more that takes a step costs
	heights []int
	spare   []int // by how much more comes to each node than leaves it; if below 0, the node lacks it
	at      []int // the step from each node that is tried next
}

// prices tells what steps cost in a valid net: one more along one of some arcs costs a price, and one less gives it back.
func prices(n api.Net, arcs []int, price int) func(step int) int {
	chosen := make([]bool, len(n.Arcs))
	for _, i := range arcs {
		chosen[i] = true
	}
	return func(step int) int {
		switch {
		case !chosen[step/2]:
			return 0
		case step%2 == 0:
			return price
		}
		return -price
	}
}

// cheapest returns a net with a flow that costs least, if one more along one of some arcs costs a price.
func cheapest(n api.Net, arcs []int, price int) (*net, api.Errno) {
	if e := checkList(n, arcs, len(n.Arcs)); e != api.OK {
		return nil, e
	}
	m := netOf(n, prices(n, arcs, price))
	if !m.settle() {
		return nil, api.ErrTight
	}
	return m, api.OK
}

// netOf returns a net with the numbers that cost least, whatever the nodes then have to spare, or lack.
func netOf(n api.Net, cost func(step int) int) *net {
	m := &net{left: leftOf(n), cost: cost, heights: make([]int, n.Nodes)}
	for i := range n.Arcs {
		if step := 2 * i; cost(step) < 0 {
			m.take(step, m.room[step])
		}
	}
	m.spare = spares(n, m.numbers(n))
	return m
}

// settle sends what nodes have to spare to others that lack it, by the ways that cost least, and reports whether all of it got there.
func (m *net) settle() bool {
	for {
		rich := m.rich()
		if len(rich) == 0 {
			return true
		}
		price, least := m.ways(rich)
		if least == none {
			return false
		}
		m.raise(price, least)
		far := unreached(len(m.spare))
		m.spread(rich, far, m.level)
		m.send(rich, far)
	}
}

// rich returns the nodes that have something to spare.
func (m *net) rich() []int {
	var out []int
	for node, x := range m.spare {
		if x > 0 {
			out = append(out, node)
		}
	}
	return out
}

// drop returns what a step costs beyond what the heights give back for it.
func (m *net) drop(step int) int {
	return m.cost(step) + m.heights[m.ends[step]] - m.heights[m.ends[back(step)]]
}

// ways looks for the cheapest way from a node that has something to spare to one that lacks it. It returns what it costs beyond what the heights give back, or none, and for each node what the cheapest way to it costs, as far as that is no more.
func (m *net) ways(rich []int) (price []int, least int) {
	price, least = unreached(len(m.spare)), none
	var byPrice [][]int
	reach := func(node, cost int) {
		if price[node] != none && price[node] <= cost {
			return
		}
		price[node] = cost
		for len(byPrice) <= cost {
			byPrice = append(byPrice, nil)
		}
		byPrice[cost] = append(byPrice[cost], node)
	}
	for _, node := range rich {
		reach(node, 0)
	}
search:
	for now := 0; now < len(byPrice); now++ {
		for i := 0; i < len(byPrice[now]); i++ {
			node := byPrice[now][i]
			switch {
			case price[node] < now:
				continue // there is a cheaper way to it
			case m.spare[node] < 0:
				least = now
				break search
			}
			for step := range m.open(node) {
				reach(m.ends[step], now+m.drop(step))
			}
		}
	}
	return price, least
}

// raise lifts nodes just so far that the cheapest way becomes level.
func (m *net) raise(price []int, least int) {
	for node, x := range price {
		if x != none && x < least {
			m.heights[node] += least - x
		}
	}
}

// level yields the open steps from a node that cost nothing beyond what the heights give back.
func (m *net) level(node int) iter.Seq[int] {
	return func(yield func(int) bool) {
		for step := range m.open(node) {
			if m.drop(step) == 0 && !yield(step) {
				return
			}
		}
	}
}

// send sends as much as it can by the shortest level ways.
func (m *net) send(rich, far []int) {
	m.at = slices.Clone(m.first)
	for _, node := range rich {
		sent := m.pour(node, m.spare[node], far)
		m.spare[node] -= sent
	}
}

// pour sends up to an amount from a node on to nodes that lack it, each step one further away, and returns how much got there.
func (m *net) pour(node, amount int, far []int) int {
	sent := min(amount, max(0, -m.spare[node]))
	m.spare[node] += sent
	if sent == amount {
		return sent
	}
	for step := range m.untried(node) {
		end := m.ends[step]
		if m.room[step] == 0 || far[end] != far[node]+1 || m.drop(step) != 0 {
			continue
		}
		more := m.pour(end, min(amount-sent, m.room[step]), far)
		m.take(step, more)
		sent += more
		if sent == amount {
			break // there may be room left
		}
	}
	return sent
}

// untried yields the steps from a node of which it is not yet known that they lead to nothing more: a step at which the caller leaves comes again the next time.
func (m *net) untried(node int) iter.Seq[int] {
	return func(yield func(int) bool) {
		for ; m.at[node] != none; m.at[node] = m.next[m.at[node]] {
			if !yield(m.at[node]) {
				return
			}
		}
	}
}
