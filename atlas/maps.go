package atlas

import (
	"noctuary/api"
	"noctuary/dots"
	"noctuary/places"
)

// checkOld returns what is wrong with old maps of the county of a base, which is valid.
func checkOld(b api.Base, old []api.DotMap) api.Errno {
	if len(old) > api.MaxMaps {
		return api.ErrLimit
	}
	for _, m := range old {
		if e := dots.Check(b.County, m); e != api.OK {
			return e
		}
	}
	return api.OK
}

// mapsOf returns the maps of a case to which there are answers, and the names that are held.
func mapsOf(b api.Base, l []api.Answer, old []api.DotMap) (maps []api.DotMap, held []int, e api.Errno) {
	for _, x := range l {
		if len(x.Sure) == 0 {
			continue
		}
		m, e := mapOf(b, x, old)
		switch e {
		case api.OK:
			maps = append(maps, m)
		case api.ErrLicence, api.ErrFalse, api.ErrNone, api.ErrSquare:
			held = append(held, x.Name)
		default:
			return nil, nil, e
		}
	}
	return maps, held, api.OK
}

// mapOf returns a further map of where a name surely was.
func mapOf(b api.Base, x api.Answer, old []api.DotMap) (api.DotMap, api.Errno) {
	licence, e := dots.LicenceOf(b.Licences, x.Name)
	if e != api.OK {
		return api.DotMap{}, e
	}
	small, e := places.Coarse(x.Sure, 0)
	if e != api.OK {
		return api.DotMap{}, e
	}
	var own []api.DotMap
	for _, m := range old {
		if m.Name == x.Name {
			own = append(own, m)
		}
	}
	return dots.Publish(b.County, licence, own, small)
}
