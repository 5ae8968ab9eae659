package keys

import (
	"slices"

	"noctuary/api"
)

// Right reports whether a key is right.
func Right(m api.Matrix, k api.Key) (bool, api.Errno) {
	_, _, e := Wrong(m, k)
	switch e {
	case api.OK:
		return false, api.OK
	case api.ErrNone:
		return true, api.OK
	}
	return false, e
}

// Wrong returns a name, and a specimen of it, that a key does not tell.
func Wrong(m api.Matrix, k api.Key) (name int, specimen []int, e api.Errno) {
	if e := CheckKey(m, k); e != api.OK {
		return 0, nil, e
	}
	r, found := find(m.Rows, func(r api.Row) bool { return misleads(k, r.Name, r.May) })
	if !found {
		return 0, nil, api.ErrNone
	}
	return r.Name, firstMisled(k, r), api.OK
}

// misleads reports whether a key leads a specimen that agrees with what was seen to a leaf without a name.
func misleads(k api.Key, name int, seen []int) bool {
	return slices.ContainsFunc(reached(k, seen), func(leaf []int) bool {
		_, has := slices.BinarySearch(leaf, name)
		return !has
	})
}

// firstMisled returns the first specimen of a row that a key misleads; there is one. Character by character it decides upon the least state with which there still is one.
func firstMisled(k api.Key, r api.Row) []int {
	seen := slices.Clone(r.May)
	specimen := make([]int, len(seen))
	for c, may := range r.May {
		for s := range api.MaxStates {
			seen[c] = may & setOf(s)
			if seen[c] != 0 && misleads(k, r.Name, seen) {
				specimen[c] = s
				break
			}
		}
	}
	return specimen
}
