package dots

import (
	"slices"

	"noctuary/api"
)

// Allowed returns where a name may have been by all maps.
func Allowed(county []api.Square, l []api.DotMap, name int) ([]api.Square, api.Errno) {
	v, e := open(county, l, name)
	if e != api.OK {
		return nil, e
	}
	return v.allowed.region()
}

// Holds reports whether squares agree with all maps.
func Holds(county []api.Square, l []api.DotMap, name int, f []api.Square) (bool, api.Errno) {
	v, e := open(county, l, name)
	if e != api.OK {
		return false, e
	}
	if e := checkSmall(v.land, f); e != api.OK {
		return false, e
	}
	return v.holds(groundOf(f)), api.OK
}

// World returns squares that agree with all maps.
func World(county []api.Square, l []api.DotMap, name int) ([]api.Square, api.Errno) {
	v, e := openTrue(county, l, name)
	if e != api.OK {
		return nil, e
	}
	var out []api.Square
	for _, frame := range v.frames() {
		out = append(out, v.part(frame).first())
	}
	slices.SortFunc(out, order)
	out = slices.Compact(out)
	if len(out) > api.MaxSquares {
		return nil, api.ErrLimit
	}
	return out, api.OK
}

// Told reports whether all maps together tell that a name was in a square.
func Told(county []api.Square, l []api.DotMap, name int, s api.Square) (bool, api.Errno) {
	v, e := openTrue(county, l, name, s)
	if e != api.OK {
		return false, e
	}
	return slices.ContainsFunc(v.frames(), func(frame api.Square) bool { return within(frame, s) }), api.OK
}

// Empty reports whether all maps together tell that it was not.
func Empty(county []api.Square, l []api.DotMap, name int, s api.Square) (bool, api.Errno) {
	v, e := openTrue(county, l, name, s)
	if e != api.OK {
		return false, e
	}
	return !v.allowed.meets(s), api.OK
}

// Parts returns the least parts that are told.
func Parts(county []api.Square, l []api.DotMap, name int) ([][]api.Square, api.Errno) {
	v, e := openTrue(county, l, name)
	if e != api.OK {
		return nil, e
	}
	var out [][]api.Square
	for _, frame := range leastOf(v.frames()) {
		part, e := v.part(frame).region()
		if e != api.OK {
			return nil, e
		}
		out = append(out, part)
	}
	return out, api.OK
}

// Finest returns the lowest level of a square that is told.
func Finest(county []api.Square, l []api.DotMap, name int) (int, api.Errno) {
	v, e := openTrue(county, l, name)
	if e != api.OK {
		return 0, e
	}
	frames := v.frames()
	if len(frames) == 0 {
		return 0, api.ErrNone
	}
	return slices.MinFunc(frames, order).Level, api.OK
}

// Safe reports whether a licence allows that a part is told.
func Safe(county []api.Square, x api.Licence, part []api.Square) (bool, api.Errno) {
	land, e := landOf(county)
	if e != api.OK {
		return false, e
	}
	told, e := landOf(part)
	if e != api.OK {
		return false, e
	}
	if !isLicence(x) {
		return false, api.ErrLicence
	}
	return asking(x)(common(land, told)), api.OK
}

// asking returns what tells whether a licence allows that a part of the county is told.
func asking(x api.Licence) func(part ground) bool {
	return func(part ground) bool {
		return len(part) > 0 && part.frame().Level >= x.Level && part.area() >= x.Least
	}
}

// Audit returns the first map, and the dot of it, that tells too much.
func Audit(county []api.Square, x api.Licence, l []api.DotMap) (int, int, api.Errno) {
	land, e := licensed(county, x)
	if e != api.OK {
		return 0, 0, e
	}
	if e := checkMaps(land, l); e != api.OK {
		return 0, 0, e
	}
	v := viewOf(land, l, x.Name)
	if e := v.check(); e != api.OK {
		return 0, 0, e
	}
	allows := asking(x)
	for at, part := range v.parts() {
		if !allows(part) {
			return at.of, at.dot, api.OK
		}
	}
	return 0, 0, api.ErrNone
}
