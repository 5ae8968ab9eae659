package dots_test

import (
	"slices"
	"testing"

	"noctuary/api"
	"noctuary/dots"
)

// arguments are those of all functions.
type arguments struct {
	county, part []api.Square
	licences     []api.Licence
	x            api.Licence
	maps         []api.DotMap
	name         int
	square       api.Square
	list         []api.Square
}

// right are arguments that are valid. Three quarters of the map are the county.
func right() arguments {
	county := []api.Square{sq(9, 0, 0), sq(9, 1, 0), sq(9, 0, 1)}
	return arguments{
		county: county, part: county, licences: []api.Licence{licence(1, 1)}, x: licence(1, 1),
		maps: []api.DotMap{dotMap([]api.Square{sq(0, 1, 1)}, nil)}, name: name,
		square: sq(0, 1, 1), list: []api.Square{sq(0, 1, 1)},
	}
}

// fault is something wrong with arguments, in each of several ways.
type fault struct {
	what  string
	error api.Errno
	ways  []func(a *arguments)
}

func countyFault() fault {
	f := fault{"county", api.ErrRegion, nil}
	for _, l := range badCounties() {
		f.ways = append(f.ways, func(a *arguments) { a.county = l })
	}
	return f
}

func partFault() fault {
	f := fault{"part", api.ErrRegion, nil}
	for _, l := range badCounties() {
		f.ways = append(f.ways, func(a *arguments) { a.part = l })
	}
	return f
}

func licenceFault() fault {
	f := fault{"licence", api.ErrLicence, nil}
	for _, x := range badLicences() {
		f.ways = append(f.ways, func(a *arguments) {
			a.x = x
			a.licences = append(a.licences, x)
		})
	}
	return f
}

func mapsFault() fault {
	return fault{"maps", api.ErrLimit, []func(a *arguments){
		func(a *arguments) { fill(a, api.MaxMaps+1, other) },
		func(a *arguments) { fill(a, api.MaxMaps+1, name) },
		func(a *arguments) { fill(a, 3*api.MaxMaps, other) },
	}}
}

// fill adds maps that tell nothing until there are n.
func fill(a *arguments, n, of int) {
	for len(a.maps) < n {
		a.maps = append(a.maps, api.DotMap{Name: of})
	}
}

func mapFault() fault {
	// The first way leaves the county as it is, so that it goes with other faults.
	far := dotMap([]api.Square{sq(0, 1023, 1023)}, nil)
	f := fault{"map", api.ErrMap, []func(a *arguments){func(a *arguments) { a.maps = append(slices.Clone(a.maps), far) }}}
	for _, m := range badMaps() {
		f.ways = append(f.ways, func(a *arguments) {
			a.county = []api.Square{sq(2, 0, 0)}
			a.maps = append(slices.Clone(a.maps), m)
		}, func(a *arguments) {
			a.county = []api.Square{sq(2, 0, 0)}
			if m.Name == name {
				m.Name = other
			}
			a.maps = append([]api.DotMap{m}, a.maps...)
		})
	}
	return f
}

func nameFault() fault {
	f := fault{"name", api.ErrArg, nil}
	for _, n := range []int{0, -1, api.MaxID + 1, huge, -huge - 1} {
		f.ways = append(f.ways, func(a *arguments) { a.name = n })
	}
	return f
}

func squareFault() fault {
	f := fault{"square", api.ErrSquare, nil}
	for _, s := range badSquares() {
		f.ways = append(f.ways, func(a *arguments) {
			a.square = s
			a.list = append([]api.Square{s}, a.list...)
		}, func(a *arguments) {
			a.square = s
			a.list = append(slices.Clone(a.list), s)
		})
	}
	return f
}

// listFault is what is wrong with a list of small squares alone.
func listFault() fault {
	f := fault{"list", api.ErrSquare, nil}
	for _, s := range append(badSquares(), sq(1, 0, 0), sq(9, 0, 0), sq(10, 0, 0), sq(0, 1023, 1023), sq(0, 512, 512)) {
		f.ways = append(f.ways, func(a *arguments) { a.list = append(slices.Clone(a.list), s) })
	}
	return f
}

func longFault() fault {
	return fault{"long", api.ErrLimit, []func(a *arguments){
		func(a *arguments) { a.list = slices.Concat(a.list, grid(64, 1, 0, 0)) },
		func(a *arguments) { a.list = slices.Concat(a.list, slices.Repeat(a.list[:1], api.MaxSquares)) },
	}}
}

func allowedFault() fault {
	return fault{"allowed", api.ErrLimit, []func(a *arguments){
		func(a *arguments) { a.maps = append(slices.Clone(a.maps), dotMap(nil, grid(64, 2, 2, 2))) },
	}}
}

func falseFault() fault {
	return fault{"false", api.ErrFalse, []func(a *arguments){
		func(a *arguments) { a.maps = append(slices.Clone(a.maps), dotMap(nil, []api.Square{sq(0, 1, 1)})) },
		func(a *arguments) {
			a.maps = append([]api.DotMap{dotMap([]api.Square{sq(0, 9, 9)}, whole())}, a.maps...)
		},
	}}
}

// worldFault lets a list be no world.
func worldFault() fault {
	return fault{"world", api.ErrFalse, []func(a *arguments){
		func(a *arguments) { a.list = []api.Square{sq(0, 1, 2)} },
		func(a *arguments) { a.list = nil },
		func(a *arguments) {
			a.maps = append(slices.Clone(a.maps), dotMap(nil, []api.Square{sq(0, 1, 2)}))
			a.list = append(slices.Clone(a.list), sq(0, 1, 2))
		},
	}}
}

// dotFault lets a small square have no dot.
func dotFault() fault {
	return fault{"dot", api.ErrNone, []func(a *arguments){func(a *arguments) { a.x.Least = 3<<18 + 1 }}}
}

// function is a function with what may be wrong with its arguments, in order, and the error that it returns for right ones.
type function struct {
	call   func(a arguments) (any, api.Errno)
	faults []fault
	error  api.Errno
}

// resultOf returns nil as a result that is zero.
func resultOf[T any](x T, e api.Errno) (any, api.Errno) {
	var none T
	if same(x, none) {
		return nil, e
	}
	return x, e
}

func functions() map[string]function {
	county, part, x, maps, one, n := countyFault(), partFault(), licenceFault(), mapsFault(), mapFault(), nameFault()
	square, list, long, allowed, clash, world, dot := squareFault(), listFault(), longFault(), allowedFault(), falseFault(), worldFault(), dotFault()
	return map[string]function{
		"CheckLicences": {func(a arguments) (any, api.Errno) { return nil, dots.CheckLicences(a.licences) }, []fault{x}, api.OK},
		"LicenceOf":     {func(a arguments) (any, api.Errno) { return resultOf(dots.LicenceOf(a.licences, a.name)) }, []fault{x, n}, api.OK},
		"Check":         {func(a arguments) (any, api.Errno) { return nil, checkAll(a) }, []fault{county, one}, api.OK},
		"BlurOne":       {func(a arguments) (any, api.Errno) { return resultOf(dots.BlurOne(a.county, a.x, a.square)) }, []fault{county, x, square, dot}, api.OK},
		"Blur":          {func(a arguments) (any, api.Errno) { return resultOf(dots.Blur(a.county, a.x, a.list)) }, []fault{county, x, list, long, dot}, api.OK},
		"Outer":         {func(a arguments) (any, api.Errno) { return resultOf(dots.Outer(a.list)) }, []fault{square, long}, api.OK},
		"Allowed":       {func(a arguments) (any, api.Errno) { return resultOf(dots.Allowed(a.county, a.maps, a.name)) }, []fault{county, maps, one, n, allowed}, api.OK},
		"Holds":         {func(a arguments) (any, api.Errno) { return resultOf(dots.Holds(a.county, a.maps, a.name, a.list)) }, []fault{county, maps, one, n, list, long}, api.OK},
		"World":         {func(a arguments) (any, api.Errno) { return resultOf(dots.World(a.county, a.maps, a.name)) }, []fault{county, maps, one, n, allowed, clash}, api.OK},
		"Told":          {func(a arguments) (any, api.Errno) { return resultOf(dots.Told(a.county, a.maps, a.name, a.square)) }, []fault{county, maps, one, n, square, allowed, clash}, api.OK},
		"Empty":         {func(a arguments) (any, api.Errno) { return resultOf(dots.Empty(a.county, a.maps, a.name, a.square)) }, []fault{county, maps, one, n, square, allowed, clash}, api.OK},
		"Parts":         {func(a arguments) (any, api.Errno) { return resultOf(dots.Parts(a.county, a.maps, a.name)) }, []fault{county, maps, one, n, allowed, clash}, api.OK},
		"Finest":        {func(a arguments) (any, api.Errno) { return resultOf(dots.Finest(a.county, a.maps, a.name)) }, []fault{county, maps, one, n, allowed, clash}, api.OK},
		"Safe":          {func(a arguments) (any, api.Errno) { return resultOf(dots.Safe(a.county, a.x, a.part)) }, []fault{county, part, x}, api.OK},
		"Audit":         {func(a arguments) (any, api.Errno) { return resultOf(audit(a.county, a.x, a.maps)) }, []fault{county, x, maps, one, allowed, clash}, api.OK},
		"Publish":       {func(a arguments) (any, api.Errno) { return resultOf(dots.Publish(a.county, a.x, a.maps, a.list)) }, []fault{county, x, maps, one, list, long, allowed, clash, world, dot}, api.ErrLicence},
	}
}

// checkAll returns the first error of Check of a list of maps.
func checkAll(a arguments) api.Errno {
	for _, m := range a.maps {
		if e := dots.Check(a.county, m); e != api.OK {
			return e
		}
	}
	return dots.Check(a.county, dotMap(nil, nil))
}

// P8.1: each error that the chapter names, alone.
func TestErrors(t *testing.T) {
	for what, f := range functions() {
		if _, e := f.call(right()); e != f.error {
			t.Errorf("%s: error %d", what, e)
		}
		for _, x := range f.faults {
			for i, way := range x.ways {
				a := right()
				way(&a)
				got, e := f.call(a)
				if e != x.error || got != nil {
					t.Errorf("%s with a wrong %s (%d): %s, error %d; want error %d alone", what, x.what, i, short(got), e, x.error)
				}
			}
		}
	}
}

// P8.1: of several errors the first one is returned.
func TestOrderOfErrors(t *testing.T) {
	for what, f := range functions() {
		for i, x := range f.faults {
			for k := i + 1; k <= len(f.faults); k++ {
				a := right()
				for _, later := range slices.Backward(f.faults[i+1 : k]) {
					later.ways[0](&a)
				}
				x.ways[0](&a)
				if got, e := f.call(a); e != x.error || got != nil {
					t.Errorf("%s with a wrong %s, and %d others: %s, error %d; want error %d alone", what, x.what, k-i-1, short(got), e, x.error)
				}
			}
		}
	}
}

// P8.1 (D16): with as many maps as there may be, there can be no further one.
func TestPublishMostMaps(t *testing.T) {
	a := right()
	a.x = licence(0, 1)
	fill(&a, api.MaxMaps-1, name)
	m, e := dots.Publish(a.county, a.x, a.maps, a.list)
	want(t, "Publish of the last map", m, e, dotMap(a.list, a.county))
	fill(&a, api.MaxMaps, other)
	m, e = dots.Publish(a.county, a.x, a.maps, a.list)
	wantError(t, "Publish of one map too many", m, e, api.ErrLimit)
	m, e = dots.Publish(a.county, a.x, a.maps, nil)
	wantError(t, "Publish of one map too many, and no world", m, e, api.ErrLimit)
	m, e = dots.Publish(a.county, a.x, a.maps, []api.Square{sq(0, 1023, 1023)})
	wantError(t, "Publish of one map too many, and no square", m, e, api.ErrSquare)
	is, e := dots.Told(a.county, a.maps, name, sq(0, 1, 1))
	want(t, "Told by the most maps", is, e, true)
	a.maps[7].Region = whole()
	m, e = dots.Publish(a.county, a.x, a.maps, a.list)
	wantError(t, "Publish of one map too many, of contradictions", m, e, api.ErrLimit)
	a.maps[8].Name = 0
	m, e = dots.Publish(a.county, a.x, a.maps, a.list)
	wantError(t, "Publish of one map too many, and no map", m, e, api.ErrMap)
}
