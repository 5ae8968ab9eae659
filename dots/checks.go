package dots

import (
	"slices"

	"noctuary/api"
	"noctuary/places"
)

const maxLeast = 1 << 20 // all small squares of the map

func isID(n int) bool { return n >= 1 && n <= api.MaxID }

func isLicence(x api.Licence) bool {
	return isID(x.Name) && x.Level >= 0 && x.Level <= api.MaxLevel && x.Least >= 1 && x.Least <= maxLeast
}

func areSquares(l []api.Square) bool {
	return !slices.ContainsFunc(l, func(s api.Square) bool { return !places.ValidSquare(s) })
}

// landOf returns the ground of a county, if it is valid.
func landOf(county []api.Square) (ground, api.Errno) {
	if !places.ValidRegion(county) {
		return nil, api.ErrRegion
	}
	return groundOf(county), api.OK
}

// licensed is landOf, if a licence is valid, too.
func licensed(county []api.Square, x api.Licence) (ground, api.Errno) {
	land, e := landOf(county)
	if e != api.OK {
		return nil, e
	}
	if !isLicence(x) {
		return nil, api.ErrLicence
	}
	return land, api.OK
}

// checkMaps returns what is wrong with a list of maps.
func checkMaps(land ground, l []api.DotMap) api.Errno {
	if len(l) > api.MaxMaps {
		return api.ErrLimit
	}
	for _, m := range l {
		if !isMap(land, m) {
			return api.ErrMap
		}
	}
	return api.OK
}

func isMap(land ground, m api.DotMap) bool {
	return isID(m.Name) && areDots(land, m.Dots) && places.ValidRegion(m.Region)
}

func areDots(land ground, l []api.Square) bool {
	if len(l) > api.MaxSquares || !areSquares(l) {
		return false
	}
	for i, s := range l {
		if i > 0 && order(l[i-1], s) >= 0 || !land.meets(s) {
			return false
		}
	}
	return len(outermost(l)) == len(l)
}

// checkSmall returns what is wrong with a list of small squares of the county.
func checkSmall(land ground, l []api.Square) api.Errno {
	for _, s := range l {
		if !isSmall(land, s) {
			return api.ErrSquare
		}
	}
	if len(l) > api.MaxSquares {
		return api.ErrLimit
	}
	return api.OK
}

// isSmall reports whether a square is a small square of the county.
func isSmall(land ground, s api.Square) bool {
	return places.ValidSquare(s) && s.Level == 0 && land.meets(s)
}
