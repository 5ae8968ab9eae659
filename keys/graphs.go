package keys

import (
	"maps"
	"math/bits"
	"slices"

	"noctuary/api"
)

// CheckKey returns OK if a key is valid.
func CheckKey(m api.Matrix, k api.Key) api.Errno {
	if e := CheckMatrix(m); e != api.OK {
		return e
	}
	if !areLeaves(k.Leaves) || !areNodes(m, k) || asksTwice(k.Nodes) {
		return api.ErrKey
	}
	return api.OK
}

// Follow returns the names to which a key leads.
func Follow(m api.Matrix, k api.Key, seen []int) ([]int, api.Errno) {
	if e := CheckKey(m, k); e != api.OK {
		return nil, e
	}
	if !areSets(m, seen) {
		return nil, api.ErrSeen
	}
	return union(reached(k, seen)), api.OK
}

// Trace returns the nodes that a specimen passes.
func Trace(m api.Matrix, k api.Key, specimen []int) ([]int, api.Errno) {
	if e := CheckKey(m, k); e != api.OK {
		return nil, e
	}
	if !isSpecimen(m, specimen) {
		return nil, api.ErrSeen
	}
	at := begin(k)
	path := []int{at}
	for at >= 0 {
		node := k.Nodes[at]
		at = node.Next[specimen[node.Char]]
		path = append(path, at)
	}
	return path, api.OK
}

// Confused returns the pairs of names that a key does not tell apart.
func Confused(m api.Matrix, k api.Key) ([][]int, api.Errno) {
	if e := CheckKey(m, k); e != api.OK {
		return nil, e
	}
	behind := map[int][][]int{} // each number, in each leaf that has it
	for _, leaf := range k.Leaves {
		for i, a := range leaf {
			behind[a] = append(behind[a], leaf[i+1:])
		}
	}
	var out [][]int
	for _, a := range slices.Sorted(maps.Keys(behind)) {
		for _, b := range union(behind[a]) {
			out = append(out, []int{a, b})
		}
	}
	return out, api.OK
}

// Depth returns the greatest number of questions.
func Depth(m api.Matrix, k api.Key) (int, api.Errno) {
	if e := CheckKey(m, k); e != api.OK {
		return 0, e
	}
	depths := map[int]int{} // of paths that begin at a node; a leaf has none
	for i, node := range slices.Backward(k.Nodes) {
		for _, next := range node.Next {
			depths[i] = max(depths[i], 1+depths[next])
		}
	}
	return depths[0], api.OK
}

// areLeaves reports whether lists can be the leaves of a key.
func areLeaves(leaves [][]int) bool {
	for _, leaf := range leaves {
		if !areNames(leaf) {
			return false
		}
	}
	return 0 < len(leaves) && len(leaves) <= api.MaxNodes
}

// areNodes reports whether each node of a key is as the matrix asks, and leads on to what there is.
func areNodes(m api.Matrix, k api.Key) bool {
	for i, node := range k.Nodes {
		if node.Char < 0 || node.Char >= len(m.States) || len(node.Next) != m.States[node.Char] {
			return false
		}
		for _, next := range node.Next {
			if next >= 0 && (next <= i || next >= len(k.Nodes)) || next < -len(k.Leaves) {
				return false
			}
		}
	}
	return len(k.Nodes) <= api.MaxNodes
}

// asksTwice reports whether a character is asked twice on a path, wherever it begins. Each node leads to later ones only.
func asksTwice(nodes []api.KeyNode) bool {
	asked := map[int]uint64{} // from a node on; a bit for each character
	for i, node := range slices.Backward(nodes) {
		own, behind := uint64(1)<<node.Char, uint64(0)
		for _, next := range node.Next {
			behind |= asked[next]
		}
		if behind&own != 0 {
			return true
		}
		asked[i] = behind | own
	}
	return false
}

// isSpecimen reports whether a list has a state for each character.
func isSpecimen(m api.Matrix, l []int) bool {
	if len(l) != len(m.States) {
		return false
	}
	for c, s := range l {
		if s < 0 || s >= m.States[c] {
			return false
		}
	}
	return true
}

// begin returns where all paths begin, as a node's Next would tell it.
func begin(k api.Key) int {
	if len(k.Nodes) == 0 {
		return -1
	}
	return 0
}

// reached returns the leaves to which the paths of specimens come that agree with what was seen. Since no path asks a character twice, each path through states that were not excluded is such a specimen's.
func reached(k api.Key, seen []int) [][]int {
	var leaves [][]int
	been := map[int]bool{}
	var walk func(at int)
	walk = func(at int) {
		if been[at] {
			return
		}
		been[at] = true
		if at < 0 {
			leaves = append(leaves, k.Leaves[-1-at])
			return
		}
		node := k.Nodes[at]
		for s, next := range node.Next {
			if seen[node.Char]&setOf(s) != 0 {
				walk(next)
			}
		}
	}
	walk(begin(k))
	return leaves
}

// union returns what is in some lists of names, in order, each once. Confused may ask for many, so it sets bits, and does without a map and sorting.
func union(lists [][]int) []int {
	var found [api.MaxID/64 + 1]uint64
	for _, l := range lists {
		for _, name := range l {
			found[name/64] |= 1 << (name % 64)
		}
	}
	var out []int
	for i, word := range found {
		for ; word != 0; word &= word - 1 {
			out = append(out, 64*i+bits.TrailingZeros64(word))
		}
	}
	return out
}
