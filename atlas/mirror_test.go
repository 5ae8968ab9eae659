package atlas_test

import (
	"math/rand/v2"
	"slices"
	"strings"
	"testing"

	"noctuary/answers"
	"noctuary/api"
	"noctuary/atlas"
	"noctuary/dots"
	"noctuary/posts"
	"noctuary/register"
)

// mirror does what the console does, act by act and call by call.
type mirror struct {
	base  api.Base
	w     *posts.World
	all   []api.DotMap
	atlas api.Atlas
	old   []api.DotMap
	has   bool
}

// line returns the line of a command.
func line(t *testing.T, word string, args ...int) string {
	t.Helper()
	s, e := atlas.Print(api.Command{Word: word, Args: args})
	if e != api.OK {
		t.Fatalf("Print of %s %v: error %d", word, args, e)
	}
	return s
}

// described returns the lines that describe a base.
func described(t *testing.T, b api.Base) []string {
	t.Helper()
	squares := func(l []api.Square) []int { return flatSquares(l)[1:] }
	out := []string{line(t, "names", b.Book.First...), line(t, "chars", b.Matrix.States...), line(t, "county", squares(b.County)...)}
	for _, x := range b.Book.Changes {
		out = append(out, line(t, "change", slices.Concat([]int{x.Year, len(x.From)}, x.From, x.To)...))
	}
	for _, x := range b.Matrix.Rows {
		out = append(out, line(t, "row", append([]int{x.Name}, x.May...)...))
	}
	for _, x := range b.Lamps {
		out = append(out, line(t, "lamp", x.ID, x.Power))
	}
	for _, x := range b.Rules {
		out = append(out, line(t, "rule", slices.Concat([]int{x.Name, x.Season.From, x.Season.To, x.Most}, squares(x.Region))...))
	}
	for _, x := range b.Licences {
		out = append(out, line(t, "licence", x.Name, x.Level, x.Least))
	}
	return append(out, line(t, "begin", b.Houses))
}

// printed is what is printed for a command with a result and an error.
func printed(word string, e api.Errno, l ...int) string {
	if e != api.OK {
		return "error " + text(int(e))
	}
	for _, n := range l {
		word += " " + text(n)
	}
	return word
}

// note returns the line of a note, and what is printed for it.
func (m *mirror) note(t *testing.T, house int, n api.Note) (said, reply string) {
	t.Helper()
	e := m.w.Step(api.Act{Kind: api.ActDo, House: house, Note: n})
	own := 0
	l, _ := m.w.Notes(house)
	for _, x := range l {
		if x.House == house {
			own = x.Num
		}
	}
	return noteLine(t, house, n), printed("ok", e, own)
}

// noteLine returns the line of a note.
func noteLine(t *testing.T, house int, n api.Note) string {
	head := []int{house, n.Day}
	about := []int{house, n.Day, n.Ref.House, n.Ref.Num, n.Line}
	switch s, x := n.Sheet, n.Series; n.Kind {
	case api.NoteSheet:
		l := append(head, s.Observer, s.Year, s.Square.X, s.Square.Y, s.Night, s.Lamp, s.Total.Lo, s.Total.Hi)
		for _, x := range s.Lines {
			l = append(l, x.Name, x.Count.Lo, x.Count.Hi)
		}
		return line(t, "sheet", l...)
	case api.NoteAccept:
		return line(t, "accept", about...)
	case api.NoteQuery:
		return line(t, "query", about...)
	case api.NoteReject:
		return line(t, "reject", about...)
	case api.NoteName:
		return line(t, "call", append(about, n.Names...)...)
	case api.NoteVoucher:
		return line(t, "voucher", append(about, n.Seen...)...)
	case api.NoteChange:
		return line(t, "list", slices.Concat(head, []int{n.Change.Year, len(n.Change.From)}, n.Change.From, n.Change.To)...)
	case api.NoteSeries:
		return line(t, "series", append(head, x.Observer, x.Said, x.Year, x.From, x.To, x.Name, x.Count.Lo, x.Count.Hi)...)
	}
	return line(t, "undo", append(head, n.Ref.House, n.Ref.Num)...)
}

// someNote returns any note, which may be wrong.
func (m *mirror) someNote(r *rand.Rand) api.Note {
	n := api.Note{Day: r.IntN(6), Kind: pick(r, 1, 1, 1, 1, 2, 3, 4, 5, 6, 7, 8, 9)}
	year := r.IntN(4)
	name := func() int { return 1 + r.IntN(6) }
	switch n.Kind {
	case api.NoteSheet:
		n.Sheet = api.Sheet{Observer: 1 + r.IntN(2), Year: year, Square: square(r.IntN(4), r.IntN(4)), Night: 10 + r.IntN(4), Lamp: 7, Total: someSpan(r, 9)}
		for range r.IntN(3) {
			n.Sheet.Lines = append(n.Sheet.Lines, api.Line{Name: name(), Count: someSpan(r, 3)})
		}
		return n
	case api.NoteChange:
		n.Change = api.Change{Year: year, From: someOf(r, numbers(6)), To: someOf(r, numbers(6))}
		return n
	case api.NoteSeries:
		n.Series = api.Series{Observer: 1 + r.IntN(2), Said: name(), Year: year, From: 9 + r.IntN(3), To: 11 + r.IntN(3), Name: name(), Count: someSpan(r, 4)}
		return n
	}
	n.Ref = api.Name{House: 1 + r.IntN(2), Num: 1 + r.IntN(12)}
	if n.Kind != api.NoteWithdraw {
		n.Line = r.IntN(2)
	}
	switch n.Kind {
	case api.NoteName:
		n.Names = someOf(r, numbers(6))
	case api.NoteVoucher:
		n.Seen = []int{1 + r.IntN(4)}
	}
	return n
}

// event returns the line of an event, and what is printed for it.
func (m *mirror) event(t *testing.T, r *rand.Rand) (said, reply string) {
	t.Helper()
	a := api.Act{House: 1 + r.IntN(2), To: 1 + r.IntN(2), Index: r.IntN(3), Keep: r.IntN(99), Flip: r.IntN(3) - 1}
	switch a.Kind = pick(r, 2, 3, 3, 4, 4, 4, 5, 6, 7, 8); a.Kind {
	case api.ActSync:
		return line(t, "sync", a.House), printed("ok", m.w.Step(a))
	case api.ActPost:
		return line(t, "post", a.House, a.To), printed("ok", m.w.Step(a))
	case api.ActDeliver:
		return line(t, "deliver", a.Index), printed("ok", m.w.Step(a))
	case api.ActLose:
		return line(t, "lose", a.Index), printed("ok", m.w.Step(a))
	case api.ActDouble:
		return line(t, "double", a.Index), printed("ok", m.w.Step(a))
	case api.ActCrash:
		return line(t, "crash", a.House, a.Keep, a.Flip, a.Index), printed("ok", m.w.Step(a))
	}
	return "settle", printed("ok", m.w.Settle())
}

// question returns the line of a question to a house, and what is printed for it.
func (m *mirror) question(t *testing.T, r *rand.Rand) (said, reply string) {
	t.Helper()
	house, name := 1+r.IntN(2), 1+r.IntN(6)
	l, _ := m.w.Notes(house)
	reg, _ := register.Fold(m.base, l)
	x, e := atlas.AnswerOf(m.base, reg, name)
	switch word := pick(r, "current", "count", "first", "last", "sure", "may", "known", "clash", "conflicts"); word {
	case "current":
		all, e := atlas.Names(m.base, reg)
		return line(t, word, house), printed(word, e, all...)
	case "count":
		return line(t, word, house, name), printed(word, e, flatSpan(x.Count)...)
	case "first":
		return line(t, word, house, name), printed(word, e, flatSpan(x.First)...)
	case "last":
		return line(t, word, house, name), printed(word, e, flatSpan(x.Last)...)
	case "sure":
		return line(t, word, house, name), printed(word, e, flatSquares(x.Sure)[1:]...)
	case "may":
		return line(t, word, house, name), printed(word, e, flatSquares(x.May)[1:]...)
	case "known":
		day, clock := r.IntN(6), r.IntN(30)
		then, _ := register.AsOf(m.base, l, day, clock)
		x, e := atlas.AnswerOf(m.base, then, name)
		return line(t, word, house, day, clock, name), printed(word, e, slices.Concat(flatSpan(x.Count), flatSpan(x.First), flatSpan(x.Last))...)
	case "clash":
		c, e := register.CaseOf(m.base, reg)
		var clash []int
		if e == api.OK {
			clash, e = answers.Clash(c)
		}
		return line(t, word, house), printed(word, e, clash...)
	}
	var conflicts []int
	for _, n := range reg.Conflicts {
		conflicts = append(conflicts, n.House, n.Num)
	}
	return line(t, "conflicts", house), printed("conflicts", api.OK, conflicts...)
}

// publish returns the line of an atlas, and what is printed for it.
func (m *mirror) publish(t *testing.T, house int) (said, reply string) {
	t.Helper()
	l, _ := m.w.Notes(house)
	reg, _ := register.Fold(m.base, l)
	old := slices.Clone(m.all)
	for i := range old {
		old[i].Region = nil
	}
	x, e := atlas.Build(m.base, reg, old)
	if e == api.OK {
		m.atlas, m.old, m.has, m.all = x, old, true, slices.Concat(old, x.Maps)
	}
	return line(t, "atlas", house), printed("atlas", e, int(x.Trouble), len(x.Answers), len(x.Maps), len(x.Held))
}

// aboutAtlas returns the line of a question about the atlas, and what is printed for it.
func (m *mirror) aboutAtlas(t *testing.T, r *rand.Rand) (said, reply string) {
	t.Helper()
	name, s := 1+r.IntN(6), of(r.IntN(3), r.IntN(4), r.IntN(4))
	is, e := dots.Told(m.base.County, m.all, name, s)
	truth := 0
	if is {
		truth = 1
	}
	dot, f := atlas.MapOf(m.atlas, name)
	rich, g := atlas.Richness(m.atlas)
	switch word := pick(r, "check", "dots", "told", "rich"); word {
	case "check":
		return word, printed("faults", m.ready(api.OK))
	case "dots":
		return line(t, word, name), printed(word, m.ready(f), flatSquares(dot.Dots)[1:]...)
	case "told":
		return line(t, word, name, s.Level, s.X, s.Y), printed(word, m.ready(e), truth)
	default:
		return word, printed(word, m.ready(g), rich.Lo, rich.Hi)
	}
}

// ready returns an error of a question about the atlas, unless there is none.
func (m *mirror) ready(e api.Errno) api.Errno {
	if !m.has {
		return api.ErrReady
	}
	return e
}

// P10.1 (A18): whatever is said to the console, it prints what the acts and calls return.
func TestMirror(t *testing.T) {
	r := random()
	words := map[string]int{} // how often each was answered without an error
	for range 100 {
		m := &mirror{base: someBase(r)}
		m.base.Rules = []api.Rule{{Name: 4, Region: m.base.County, Season: api.Season{From: 401, To: 301}, Most: 3}}
		m.w, _ = posts.NewWorld(m.base, m.base.Houses)
		lines := described(t, m.base)
		replies := slices.Repeat([]string{"ok"}, len(lines))
		for range 150 {
			var said, reply string
			switch r.IntN(10) {
			case 0, 1, 2, 3:
				said, reply = m.note(t, 1+r.IntN(2), m.someNote(r))
			case 4:
				said, reply = m.event(t, r)
			case 5, 6, 7:
				said, reply = m.question(t, r)
			case 8:
				said, reply = m.publish(t, 1+r.IntN(2))
			case 9:
				said, reply = m.aboutAtlas(t, r)
			}
			lines, replies = append(lines, said), append(replies, reply)
			if !strings.HasPrefix(reply, "error") {
				word, _, _ := strings.Cut(said, " ")
				words[word]++
			}
		}
		got := strings.Split(string(atlas.Run([]byte(strings.Join(lines, "\n")))), "\n")
		for i, reply := range replies {
			if got[i] != reply {
				t.Fatalf("%s\ngives %q; want %q", strings.Join(lines[:i+1], "\n"), got[i], reply)
			}
		}
	}
	_, behind := argsOf()
	for word := range behind {
		if words[word] < 5 {
			t.Errorf("%s was answered %d times", word, words[word])
		}
	}
}
