package dots

import (
	"iter"

	"noctuary/api"
	"noctuary/places"
)

// view is what maps of the county tell of a name together.
type view struct {
	land    ground       // the county
	maps    []api.DotMap // of any names
	name    int
	allowed ground
}

// viewOf returns the view of valid maps.
func viewOf(land ground, l []api.DotMap, name int) view {
	v := view{land: land, maps: l, name: name}
	var told []ground
	for _, m := range v.asked() {
		told = append(told, without(groundOf(m.Region), groundOf(m.Dots)))
	}
	v.allowed = without(land, told...)
	return v
}

// open returns the view of maps, if these, a name and some squares are valid.
func open(county []api.Square, l []api.DotMap, name int, squares ...api.Square) (view, api.Errno) {
	land, e := landOf(county)
	if e != api.OK {
		return view{}, e
	}
	if e := checkMaps(land, l); e != api.OK {
		return view{}, e
	}
	if !isID(name) {
		return view{}, api.ErrArg
	}
	if !areSquares(squares) {
		return view{}, api.ErrSquare
	}
	return viewOf(land, l, name), api.OK
}

// openTrue is open, if the maps do not contradict one another.
func openTrue(county []api.Square, l []api.DotMap, name int, squares ...api.Square) (view, api.Errno) {
	v, e := open(county, l, name, squares...)
	if e != api.OK {
		return view{}, e
	}
	if e := v.check(); e != api.OK {
		return view{}, e
	}
	return v, api.OK
}

// check returns ErrLimit, if what is allowed is no region, and ErrFalse, if the maps contradict one another.
func (v view) check() api.Errno {
	if v.allowed.count() > api.MaxSquares {
		return api.ErrLimit
	}
	for _, part := range v.parts() {
		if len(part) == 0 {
			return api.ErrFalse
		}
	}
	return api.OK
}

// asked yields the maps of the name, with their indices.
func (v view) asked() iter.Seq2[int, api.DotMap] {
	return func(yield func(int, api.DotMap) bool) {
		for i, m := range v.maps {
			if m.Name == v.name && !yield(i, m) {
				return
			}
		}
	}
}

// position tells where a dot is: the index of its map, and its own in this map.
type position struct{ of, dot int }

// dots yields the dots, with their positions.
func (v view) dots() iter.Seq2[position, api.Square] {
	return func(yield func(position, api.Square) bool) {
		for i, m := range v.asked() {
			for k, dot := range m.Dots {
				if !yield(position{of: i, dot: k}, dot) {
					return
				}
			}
		}
	}
}

// parts yields the parts of the dots, with the positions of these.
func (v view) parts() iter.Seq2[position, ground] {
	return func(yield func(position, ground) bool) {
		for at, dot := range v.dots() {
			if !yield(at, v.part(dot)) {
				return
			}
		}
	}
}

func (v view) part(dot api.Square) ground { return v.allowed.in(dot) }

// frames returns the frames of the parts, in the order of the first dots that have them. A frame tells its part, as all of it that is allowed: equal parts have equal frames, and a part lies in another one if its frame does.
func (v view) frames() []api.Square {
	var out []api.Square
	known := map[api.Square]bool{}
	for _, part := range v.parts() {
		s := part.frame()
		if !known[s] {
			known[s] = true
			out = append(out, s)
		}
	}
	return out
}

// leastOf returns those of some squares in which no other one of them lies.
func leastOf(l []api.Square) []api.Square {
	around := map[api.Square]bool{}
	for _, s := range l {
		for level := s.Level + 1; level <= api.MaxLevel && !around[upTo(s, level)]; level++ {
			around[upTo(s, level)] = true
		}
	}
	var out []api.Square
	for _, s := range l {
		if !around[s] {
			out = append(out, s)
		}
	}
	return out
}

// holds reports whether some small squares of the county are a world.
func (v view) holds(f ground) bool {
	for _, dot := range v.dots() {
		if !f.meets(dot) {
			return false
		}
	}
	return len(without(f, v.allowed)) == 0
}

// upTo is places.Blur of a valid square and a level that is right.
func upTo(s api.Square, level int) api.Square {
	out, _ := places.Blur(s, level)
	return out
}

// within is places.Within of valid squares.
func within(a, b api.Square) bool {
	is, _ := places.Within(a, b)
	return is
}
