package register

import (
	"noctuary/api"
	"noctuary/keys"
	"noctuary/names"
	"noctuary/places"
	"noctuary/sheets"
)

const maxLeast = 1 << (2 * api.MaxLevel) // squares of level 0: the whole map

// CheckBase returns OK if a base is valid.
func CheckBase(b api.Base) api.Errno {
	if e, _ := names.Check(b.Book); e != api.OK {
		return api.ErrBase
	}
	if keys.CheckMatrix(b.Matrix) != api.OK || sheets.CheckRules(b.Rules) != api.OK || sheets.CheckLamps(b.Lamps) != api.OK {
		return api.ErrBase
	}
	if !places.ValidRegion(b.County) || !areLicences(b.Licences) || !between(b.Houses, 1, api.MaxHouses) {
		return api.ErrBase
	}
	return api.OK
}

// areLicences reports whether a list can be the Licences of a base.
func areLicences(l []api.Licence) bool {
	if len(l) > api.MaxNames {
		return false
	}
	last := 0
	for _, x := range l {
		if x.Name <= last || !isID(x.Name) || !between(x.Level, 0, api.MaxLevel) || !between(x.Least, 1, maxLeast) {
			return false
		}
		last = x.Name
	}
	return true
}

func isID(n int) bool { return between(n, 1, api.MaxID) }

func isYear(n int) bool { return between(n, 0, api.MaxYear) }

func isDay(n int) bool { return between(n, 0, api.MaxDay) }

func between(n, least, greatest int) bool { return least <= n && n <= greatest }
