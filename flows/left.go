package flows

import (
	"iter"
	"slices"

	"noctuary/api"
)

// left is what is left of each arc of a net beside the numbers that flow now. The step 2*i leads along the arc i, and the step 2*i+1 back along it: what takes a step makes the number of its arc greater, or less.
type left struct {
	ends  []int // the node to which each step leads
	room  []int // how much may still take each step
	first []int // the first step from each node, or none
	next  []int // behind each step the next one from the same node, or none
}

const none = -1

// leftOf returns what is left of each arc of a valid net beside its Lo.
func leftOf(n api.Net) left {
	l := left{first: slices.Repeat([]int{none}, n.Nodes)}
	for _, a := range n.Arcs {
		l.add(a.From, a.To, a.Hi-a.Lo)
		l.add(a.To, a.From, 0)
	}
	return l
}

// add adds a step.
func (l *left) add(from, to, room int) {
	step := len(l.ends)
	l.ends = append(l.ends, to)
	l.room = append(l.room, room)
	l.next = append(l.next, l.first[from])
	l.first[from] = step
}

// steps yields the steps from a node.
func (l left) steps(node int) iter.Seq[int] {
	return func(yield func(int) bool) {
		for step := l.first[node]; step != none; step = l.next[step] {
			if !yield(step) {
				return
			}
		}
	}
}

// open yields the steps from a node that something may still take.
func (l left) open(node int) iter.Seq[int] {
	return func(yield func(int) bool) {
		for step := range l.steps(node) {
			if l.room[step] > 0 && !yield(step) {
				return
			}
		}
	}
}

// back returns the step that undoes a step.
func back(step int) int { return step ^ 1 }

// take lets an amount take a step.
func (l left) take(step, amount int) {
	l.room[step] -= amount
	l.room[back(step)] += amount
}

// numbers returns what flows along each arc of the net.
func (l left) numbers(n api.Net) []int {
	out := make([]int, len(n.Arcs))
	for i, a := range n.Arcs {
		out[i] = a.Lo + l.room[back(2*i)]
	}
	return out
}

// unreached is how far away nodes are as long as none of them has been reached.
func unreached(nodes int) []int { return slices.Repeat([]int{none}, nodes) }

// spread goes from some nodes on to all to which steps lead, and writes down how many steps each of them is away. It returns those that it reached, the nearest ones first.
func (l left) spread(nodes, far []int, steps func(node int) iter.Seq[int]) []int {
	out := slices.Clone(nodes)
	for _, node := range nodes {
		far[node] = 0
	}
	for i := 0; i < len(out); i++ {
		for step := range steps(out[i]) {
			if end := l.ends[step]; far[end] == none {
				far[end] = far[out[i]] + 1
				out = append(out, end)
			}
		}
	}
	return out
}

// spares returns by how much more comes to each node than leaves it.
func spares(n api.Net, f []int) []int {
	out := make([]int, n.Nodes)
	for i, a := range n.Arcs {
		out[a.To] += f[i]
		out[a.From] -= f[i]
	}
	return out
}
