package atlas

import (
	"noctuary/api"
	"noctuary/posts"
	"noctuary/register"
)

// beginnings returns the commands that describe the base.
func (c *console) beginnings() map[string]command {
	b := &c.base
	return map[string]command{
		"names":  c.beginning(atLeast(0), func(a []int) { b.Book.First = a }),
		"chars":  c.beginning(atLeast(0), func(a []int) { b.Matrix.States = a }),
		"county": c.beginning(andThrees(0), func(a []int) { b.County = squaresOf(a) }),
		"row": c.beginning(atLeast(1), func(a []int) {
			b.Matrix.Rows = append(b.Matrix.Rows, api.Row{Name: a[0], May: a[1:]})
		}),
		"lamp": c.beginning(exactly(2), func(a []int) {
			b.Lamps = append(b.Lamps, api.Lamp{ID: a[0], Power: a[1]})
		}),
		"rule": c.beginning(andThrees(4), func(a []int) {
			b.Rules = append(b.Rules, api.Rule{Name: a[0], Season: api.Season{From: a[1], To: a[2]}, Most: a[3], Region: squaresOf(a[4:])})
		}),
		"licence": c.beginning(exactly(3), func(a []int) {
			b.Licences = append(b.Licences, api.Licence{Name: a[0], Level: a[1], Least: a[2]})
		}),
		"change": {takes: atLeast(2), ready: c.isAhead, says: done, do: c.change},
		"begin":  {takes: exactly(1), ready: c.isAhead, says: done, do: c.begin},
	}
}

// beginning returns a command ahead of begin that cannot fail.
func (c *console) beginning(takes func(args int) bool, set func(a []int)) command {
	return command{takes: takes, ready: c.isAhead, says: done, do: func(a []int) ([]int, api.Errno) {
		set(a)
		return nil, api.OK
	}}
}

func (c *console) change(a []int) ([]int, api.Errno) {
	x, e := changeOf(a)
	if e != api.OK {
		return nil, e
	}
	c.base.Book.Changes = append(c.base.Book.Changes, x)
	return nil, api.OK
}

func (c *console) begin(a []int) ([]int, api.Errno) {
	b := c.base
	b.Houses = a[0]
	if e := register.CheckBase(b); e != api.OK {
		return nil, e
	}
	w, e := posts.NewWorld(b, b.Houses)
	if e != api.OK {
		return nil, e
	}
	c.base, c.world = b, w
	return nil, api.OK
}

// changeOf returns the change with a year, and with so many of the further numbers as its From as the number ahead of them tells.
func changeOf(a []int) (api.Change, api.Errno) {
	year, from, ids := a[0], a[1], a[2:]
	if from < 0 || from > len(ids) {
		return api.Change{}, api.ErrArg
	}
	return api.Change{Year: year, From: ids[:from], To: ids[from:]}, api.OK
}

// squaresOf returns the squares of which numbers are Level, X and Y.
func squaresOf(a []int) []api.Square {
	var out []api.Square
	for ; len(a) > 0; a = a[3:] {
		out = append(out, api.Square{Level: a[0], X: a[1], Y: a[2]})
	}
	return out
}

// numbersOf returns Level, X and Y of squares.
func numbersOf(l []api.Square) []int {
	var out []int
	for _, s := range l {
		out = append(out, s.Level, s.X, s.Y)
	}
	return out
}
