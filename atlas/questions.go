package atlas

import (
	"slices"

	"noctuary/answers"
	"noctuary/api"
	"noctuary/dots"
	"noctuary/register"
)

// questions returns the commands that ask something.
func (c *console) questions() map[string]command {
	return map[string]command{
		"current":   {takes: exactly(1), ready: c.hasBegun, do: c.current},
		"count":     c.answering(func(x api.Answer) []int { return ends(x.Count) }),
		"first":     c.answering(func(x api.Answer) []int { return ends(x.First) }),
		"last":      c.answering(func(x api.Answer) []int { return ends(x.Last) }),
		"sure":      c.answering(func(x api.Answer) []int { return numbersOf(x.Sure) }),
		"may":       c.answering(func(x api.Answer) []int { return numbersOf(x.May) }),
		"known":     {takes: exactly(4), ready: c.hasBegun, do: c.known},
		"clash":     {takes: exactly(1), ready: c.hasBegun, do: c.clash},
		"conflicts": {takes: exactly(1), ready: c.hasBegun, do: c.conflicts},
		"atlas":     {takes: exactly(1), ready: c.hasBegun, do: c.publish},
		"dots":      {takes: exactly(1), ready: c.hasAtlas, do: c.dots},
		"told":      {takes: exactly(4), ready: c.hasAtlas, do: c.told},
		"rich":      {takes: exactly(0), ready: c.hasAtlas, do: c.rich},
		"check":     {takes: exactly(0), ready: c.hasAtlas, says: "faults", do: c.check},
	}
}

// answering returns a command that asks a house for a part of the answer to a name.
func (c *console) answering(part func(x api.Answer) []int) command {
	return command{takes: exactly(2), ready: c.hasBegun, do: func(a []int) ([]int, api.Errno) {
		r, e := c.folded(a[0])
		if e != api.OK {
			return nil, e
		}
		x, e := AnswerOf(c.base, r, a[1])
		if e != api.OK {
			return nil, e
		}
		return part(x), api.OK
	}}
}

func ends(s api.Span) []int { return []int{s.Lo, s.Hi} }

func (c *console) current(a []int) ([]int, api.Errno) {
	r, e := c.folded(a[0])
	if e != api.OK {
		return nil, e
	}
	return Names(c.base, r)
}

// known asks what was known of a name on a day at a time.
func (c *console) known(a []int) ([]int, api.Errno) {
	l, e := c.world.Notes(a[0])
	if e != api.OK {
		return nil, e
	}
	r, e := register.AsOf(c.base, l, a[1], a[2])
	if e != api.OK {
		return nil, e
	}
	x, e := AnswerOf(c.base, r, a[3])
	if e != api.OK {
		return nil, e
	}
	return slices.Concat(ends(x.Count), ends(x.First), ends(x.Last)), api.OK
}

func (c *console) clash(a []int) ([]int, api.Errno) {
	r, e := c.folded(a[0])
	if e != api.OK {
		return nil, e
	}
	m, e := matterOf(c.base, r)
	if e != api.OK {
		return nil, e
	}
	return answers.Clash(m.asked)
}

func (c *console) conflicts(a []int) ([]int, api.Errno) {
	r, e := c.folded(a[0])
	if e != api.OK {
		return nil, e
	}
	var out []int
	for _, n := range r.Conflicts {
		out = append(out, n.House, n.Num)
	}
	return out, api.OK
}

// publish builds an atlas. What was published before tells where a name was, but not where it has not been since: it loses its Regions.
func (c *console) publish(a []int) ([]int, api.Errno) {
	r, e := c.folded(a[0])
	if e != api.OK {
		return nil, e
	}
	var old []api.DotMap
	for _, m := range c.published {
		old = append(old, api.DotMap{Name: m.Name, Dots: m.Dots})
	}
	x, e := Build(c.base, r, old)
	if e != api.OK {
		return nil, e
	}
	c.atlas, c.old, c.isBuilt = x, old, true
	c.published = slices.Concat(old, x.Maps)
	return []int{int(x.Trouble), len(x.Answers), len(x.Maps), len(x.Held)}, api.OK
}

// check checks the atlas as one who reads its bytes alone.
func (c *console) check([]int) ([]int, api.Errno) {
	b, e := Encode(c.atlas)
	if e != api.OK {
		return nil, e
	}
	x, e := Decode(b)
	if e != api.OK {
		return nil, e
	}
	var out []int
	for _, fault := range Check(x, c.old) {
		out = append(out, fault.Kind, fault.Index)
	}
	return out, api.OK
}

func (c *console) dots(a []int) ([]int, api.Errno) {
	m, e := MapOf(c.atlas, a[0])
	return numbersOf(m.Dots), e
}

// told asks whether all that was published tells that a name was in a square.
func (c *console) told(a []int) ([]int, api.Errno) {
	is, e := dots.Told(c.base.County, c.published, a[0], api.Square{Level: a[1], X: a[2], Y: a[3]})
	switch {
	case e != api.OK:
		return nil, e
	case is:
		return []int{1}, api.OK
	}
	return []int{0}, api.OK
}

func (c *console) rich([]int) ([]int, api.Errno) {
	s, e := Richness(c.atlas)
	return ends(s), e
}
