package dots

import (
	"slices"

	"noctuary/api"
	"noctuary/places"
)

// Publish returns a further map of squares.
func Publish(county []api.Square, x api.Licence, l []api.DotMap, f []api.Square) (api.DotMap, api.Errno) {
	land, e := licensed(county, x)
	if e != api.OK {
		return api.DotMap{}, e
	}
	if e := checkMaps(land, l); e != api.OK {
		return api.DotMap{}, e
	}
	if e := checkSmall(land, f); e != api.OK {
		return api.DotMap{}, e
	}
	if len(l) == api.MaxMaps {
		return api.DotMap{}, api.ErrLimit
	}
	v := viewOf(land, l, x.Name)
	if e := v.check(); e != api.OK {
		return api.DotMap{}, e
	}
	if !v.holds(groundOf(f)) {
		return api.DotMap{}, api.ErrFalse
	}
	dots, e := dotsFor(land, x, f)
	if e != api.OK {
		return api.DotMap{}, e
	}
	d := draftOf(v, dots)
	if e := d.settle(asking(x)); e != api.OK {
		return api.DotMap{}, e
	}
	return api.DotMap{Name: x.Name, Dots: d.dots, Region: slices.Clone(county)}, api.OK
}

// draft is a map of the county that is not yet published, with what is known of it and of the maps ahead of it. All parts only grow when a dot is raised: what a licence allows to be told it still allows then, so that each part is looked at until it is allowed, and never again.
type draft struct {
	before  ground       // what the maps ahead of it allow
	left    []api.Square // the dots of these maps whose parts are not yet known to be allowed
	dots    []api.Square
	fine    int    // of how many of its first dots the parts are known to be allowed
	allowed ground // what all maps allow together
	count   int    // of the squares of this
}

func draftOf(v view, dots []api.Square) *draft {
	d := &draft{before: v.allowed, dots: dots, allowed: common(v.allowed, groundOf(dots))}
	d.count = d.allowed.count()
	for _, dot := range v.dots() {
		d.left = append(d.left, dot)
	}
	return d
}

// settle raises dots until all parts are allowed to be told.
func (d *draft) settle(allows func(part ground) bool) api.Errno {
raising:
	for d.count <= api.MaxSquares {
		for ; len(d.left) > 0; d.left = d.left[1:] {
			if allows(d.allowed.in(d.left[0])) {
				continue
			}
			i := d.firstNear(d.left[0])
			if i < 0 {
				return api.ErrLicence
			}
			d.raise(i)
			continue raising
		}
		for ; d.fine < len(d.dots); d.fine++ {
			dot := d.dots[d.fine]
			if allows(d.allowed.in(dot)) {
				continue
			}
			if dot.Level == api.MaxLevel {
				return api.ErrLicence
			}
			d.raise(d.fine)
			d.fine = d.placeOf(dot)
			continue raising
		}
		return api.OK
	}
	return api.ErrLimit
}

// firstNear returns the index of the first dot that can be raised of those that lie in a square, or in which it lies; -1, if there is none.
func (d *draft) firstNear(s api.Square) int {
	return slices.IndexFunc(d.dots, func(dot api.Square) bool {
		return dot.Level < api.MaxLevel && (within(dot, s) || within(s, dot))
	})
}

// raise lets the parent of a dot take its place, and that of all others that lie in it.
func (d *draft) raise(i int) {
	up, _ := places.Parent(d.dots[i])
	d.dots = slices.DeleteFunc(d.dots, func(dot api.Square) bool { return within(dot, up) })
	d.dots = slices.Insert(d.dots, d.placeOf(up), up)
	d.grow(up)
}

// placeOf returns the index of a dot, or that which it would have.
func (d *draft) placeOf(dot api.Square) int {
	i, _ := slices.BinarySearchFunc(d.dots, dot, order)
	return i
}

// grow allows in a square what the maps ahead allow there. Only the stretches that meet it or touch it change.
func (d *draft) grow(s api.Square) {
	t := stretchOf(s)
	first, behind := d.allowed.find(stretch{from: t.from - 1, to: t.to + 1})
	old := d.allowed[first:behind]
	now := union(old, d.before.in(s))
	d.count += now.count() - old.count()
	d.allowed = slices.Replace(d.allowed, first, behind, now...)
}
