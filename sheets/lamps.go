package sheets

import (
	"cmp"
	"slices"

	"noctuary/api"
)

const maxEffort = 1000 // sheets for which Effort may be asked

// CheckLamps returns OK if lamps are valid.
func CheckLamps(l []api.Lamp) api.Errno {
	if len(l) > api.MaxLamps || !areIDs(l, lampID) {
		return api.ErrLamps
	}
	for _, x := range l {
		if !between(x.Power, 1, api.MaxPower) {
			return api.ErrLamps
		}
	}
	return api.OK
}

// PowerOf returns the power of a lamp.
func PowerOf(l []api.Lamp, id int) (int, api.Errno) {
	if e := CheckLamps(l); e != api.OK {
		return 0, e
	}
	i, found := indexOf(l, lampID, id)
	if !found {
		return 0, api.ErrNone
	}
	return l[i].Power, api.OK
}

// Effort returns the power of all lamps.
func Effort(l []api.Lamp, s []api.Sheet) (int, api.Errno) {
	if e := CheckLamps(l); e != api.OK {
		return 0, e
	}
	if len(s) > maxEffort {
		return 0, api.ErrLimit
	}
	for _, x := range s {
		if !isValid(x) {
			return 0, api.ErrSheet
		}
	}
	sum := 0
	for _, x := range s {
		power, e := PowerOf(l, x.Lamp)
		if e != api.OK {
			return 0, e
		}
		sum += power
	}
	return sum, api.OK
}

func lampID(x api.Lamp) int { return x.ID }

// areIDs reports whether the elements of a list have IDs (or names) in order.
func areIDs[T any](l []T, idOf func(T) int) bool {
	last := 0
	for _, x := range l {
		id := idOf(x)
		if id <= last || id > api.MaxID {
			return false
		}
		last = id
	}
	return true
}

// indexOf returns the index of the element with an ID (or a name), if there is one. The list is in order of these.
func indexOf[T any](l []T, idOf func(T) int, id int) (int, bool) {
	return slices.BinarySearchFunc(l, id, func(x T, id int) int { return cmp.Compare(idOf(x), id) })
}
