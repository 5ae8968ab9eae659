package keys

import (
	"slices"

	"noctuary/api"
)

// Best returns the character to look at next.
func Best(m api.Matrix, seen []int) (int, api.Errno) {
	if e := checkSeen(m, seen); e != api.OK {
		return 0, e
	}
	rows := remaining(m.Rows, seen)
	c, found := best(rows, seen, func(c int) bool { return !isDecided(seen[c]) })
	if !found {
		return 0, api.ErrNone
	}
	return c, api.OK
}

// Worst returns how many names remain at worst.
func Worst(m api.Matrix, seen []int, char int) (int, api.Errno) {
	if e := checkSeen(m, seen); e != api.OK {
		return 0, e
	}
	if char < 0 || char >= len(m.States) {
		return 0, api.ErrArg
	}
	return worst(remaining(m.Rows, seen), char, seen[char]), api.OK
}

// Build returns a key that is right.
func Build(m api.Matrix) (api.Key, api.Errno) {
	seen, e := Open(m)
	if e != api.OK {
		return api.Key{}, e
	}
	var k api.Key
	if _, e := grow(&k, m, m.Rows, seen); e != api.OK {
		return api.Key{}, e
	}
	return k, api.OK
}

// grow adds to a key what is made for the rows that remain of what was seen, and returns how a node's Next tells of it.
func grow(k *api.Key, m api.Matrix, rows []api.Row, seen []int) (int, api.Errno) {
	char, found := best(rows, seen, func(c int) bool { return isUseful(rows, c, seen[c]) })
	if !found {
		return growLeaf(k, rows)
	}
	at := len(k.Nodes)
	k.Nodes = append(k.Nodes, api.KeyNode{Char: char})
	next := make([]int, m.States[char])
	for s := range m.States[char] {
		known := slices.Clone(seen)
		known[char] = setOf(s)
		n, e := grow(k, m, remaining(rows, known), known)
		if e != api.OK {
			return 0, e
		}
		next[s] = n
	}
	k.Nodes[at].Next = next
	return at, api.OK
}

// growLeaf adds a leaf, if there may be a further one. What is made is a tree in which each node leads to two or more, so there are more leaves than nodes, and no limit of nodes is exceeded without that of leaves.
func growLeaf(k *api.Key, rows []api.Row) (int, api.Errno) {
	n := len(k.Leaves)
	if n == api.MaxNodes {
		return 0, api.ErrLimit
	}
	k.Leaves = append(k.Leaves, namesOf(rows))
	return -1 - n, api.OK
}

// isUseful reports whether two or more rows remain, and a state of a set leaves fewer of them: one that some row has not. A set that is decided leaves them all, since they fit it.
func isUseful(rows []api.Row, char, set int) bool {
	return len(rows) > 1 && slices.ContainsFunc(rows, func(r api.Row) bool { return set&^r.May[char] != 0 })
}

// best returns the first one of the characters that may be asked for which worst is least.
func best(rows []api.Row, seen []int, mayAsk func(char int) bool) (char int, found bool) {
	least := 0
	for c, set := range seen {
		if !mayAsk(c) {
			continue
		}
		if n := worst(rows, c, set); !found || n < least {
			char, found, least = c, true, n
		}
	}
	return char, found
}

// worst returns how many of some rows one state of a set leaves at worst.
func worst(rows []api.Row, char, set int) int {
	var left [api.MaxStates]int
	for _, r := range rows {
		both := r.May[char] & set
		for s := range api.MaxStates {
			left[s] += both >> s & 1
		}
	}
	return greatest(left[:]...)
}

// greatest returns the greatest of some numbers of names.
func greatest(numbers ...int) int {
	out := 0
	for _, n := range numbers {
		out = max(out, n)
	}
	return out
}
