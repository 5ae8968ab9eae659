package atlas

import (
	"cmp"
	"maps"
	"strings"

	"noctuary/api"
	"noctuary/posts"
	"noctuary/register"
)

// Run returns what the console prints for a script.
func Run(script []byte) []byte {
	if len(script) > api.MaxScript {
		return []byte(errorLine(api.ErrLimit) + "\n")
	}
	c := newConsole()
	var out []byte
	read := 0
reading:
	for line := range strings.Lines(string(script)) {
		line = strings.TrimSuffix(line, "\n")
		switch {
		case read == api.MaxCommands:
			break reading
		case line != "":
			out = append(out, c.reply(line)...)
		}
		out = append(out, '\n')
		read++
	}
	return out
}

// console is what the lines of a script work on.
type console struct {
	commands  map[string]command
	base      api.Base
	world     *posts.World // none ahead of begin
	published []api.DotMap
	atlas     api.Atlas
	old       []api.DotMap // the maps with which the atlas was built
	isBuilt   bool         // whether there is an atlas
}

// command is what the console does for a word.
type command struct {
	takes func(args int) bool // whether the word may have so many Args
	ready func() bool         // whether it may come now
	says  string              // ahead of the numbers that are printed, if not the word itself
	do    func(args []int) ([]int, api.Errno)
}

func newConsole() *console {
	c := &console{commands: map[string]command{}}
	for _, table := range []map[string]command{c.beginnings(), c.notes(), c.events(), c.questions()} {
		maps.Copy(c.commands, table)
	}
	return c
}

// reply returns what is printed for a line that is not empty.
func (c *console) reply(line string) string {
	x, e := Parse(line)
	known, found := c.commands[x.Word]
	switch {
	case e != api.OK || !found || !known.takes(len(x.Args)):
		return errorLine(api.ErrCommand)
	case !known.ready():
		return errorLine(api.ErrReady)
	}
	numbers, e := known.do(x.Args)
	if e != api.OK {
		return errorLine(e)
	}
	return lineOf(cmp.Or(known.says, x.Word), numbers)
}

func errorLine(e api.Errno) string { return lineOf("error", []int{int(e)}) }

const done = "ok" // what most commands say

func exactly(n int) func(args int) bool { return func(args int) bool { return args == n } }

func atLeast(n int) func(args int) bool { return func(args int) bool { return args >= n } }

// andThrees is for n Args, and three for each of any number of things.
func andThrees(n int) func(args int) bool {
	return func(args int) bool { return args >= n && (args-n)%3 == 0 }
}

func (c *console) isAhead() bool { return c.world == nil }

func (c *console) hasBegun() bool { return c.world != nil }

func (c *console) hasAtlas() bool { return c.isBuilt }

// events returns the commands that let something happen in the world.
func (c *console) events() map[string]command {
	return map[string]command{
		"sync":    c.event(1, func(a []int) api.Act { return api.Act{Kind: api.ActSync, House: a[0]} }),
		"post":    c.event(2, func(a []int) api.Act { return api.Act{Kind: api.ActPost, House: a[0], To: a[1]} }),
		"deliver": c.event(1, func(a []int) api.Act { return api.Act{Kind: api.ActDeliver, Index: a[0]} }),
		"lose":    c.event(1, func(a []int) api.Act { return api.Act{Kind: api.ActLose, Index: a[0]} }),
		"double":  c.event(1, func(a []int) api.Act { return api.Act{Kind: api.ActDouble, Index: a[0]} }),
		"crash": c.event(4, func(a []int) api.Act {
			return api.Act{Kind: api.ActCrash, House: a[0], Keep: a[1], Flip: a[2], Index: a[3]}
		}),
		"settle": {takes: exactly(0), ready: c.hasBegun, says: done, do: func([]int) ([]int, api.Errno) {
			return nil, c.world.Settle()
		}},
	}
}

// event returns the command of an act.
func (c *console) event(args int, act func(a []int) api.Act) command {
	return command{takes: exactly(args), ready: c.hasBegun, says: done, do: func(a []int) ([]int, api.Errno) {
		return nil, c.world.Step(act(a))
	}}
}

// folded returns the register of a house.
func (c *console) folded(house int) (api.Register, api.Errno) {
	l, e := c.world.Notes(house)
	if e != api.OK {
		return api.Register{}, e
	}
	return register.Fold(c.base, l)
}
