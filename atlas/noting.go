package atlas

import "noctuary/api"

// notes returns the commands by which houses do notes.
func (c *console) notes() map[string]command {
	return map[string]command{
		"sheet":   c.noting(andThrees(8), sheetOf),
		"accept":  c.noting(exactly(3), judged(api.NoteAccept)),
		"query":   c.noting(exactly(3), judged(api.NoteQuery)),
		"reject":  c.noting(exactly(3), judged(api.NoteReject)),
		"call":    c.noting(atLeast(3), calledOf),
		"voucher": c.noting(atLeast(3), voucherOf),
		"list":    c.noting(atLeast(2), listOf),
		"series":  c.noting(exactly(8), seriesOf),
		"undo":    c.noting(exactly(2), undoOf),
	}
}

// content returns a note without its Day of the Args behind HOUSE and DAY.
type content func(a []int) (api.Note, api.Errno)

// noting returns the command by which a house does a note. It takes two Args more than its content.
func (c *console) noting(takes func(args int) bool, contentOf content) command {
	return command{
		takes: func(args int) bool { return takes(args - 2) },
		ready: c.hasBegun,
		says:  done,
		do: func(a []int) ([]int, api.Errno) {
			n, e := contentOf(a[2:])
			if e != api.OK {
				return nil, e
			}
			n.Day = a[1]
			return c.note(a[0], n)
		},
	}
}

// note lets a house do a note, and returns its Num.
func (c *console) note(house int, n api.Note) ([]int, api.Errno) {
	if e := c.world.Step(api.Act{Kind: api.ActDo, House: house, Note: n}); e != api.OK {
		return nil, e
	}
	l, e := c.world.Notes(house)
	if e != api.OK {
		return nil, e
	}
	num := 0
	for _, x := range l {
		if x.House == house {
			num = max(num, x.Num)
		}
	}
	return []int{num}, api.OK
}

func sheetOf(a []int) (api.Note, api.Errno) {
	s := api.Sheet{
		Observer: a[0], Year: a[1], Square: api.Square{X: a[2], Y: a[3]},
		Night: a[4], Lamp: a[5], Total: api.Span{Lo: a[6], Hi: a[7]},
	}
	for a = a[8:]; len(a) > 0; a = a[3:] {
		s.Lines = append(s.Lines, api.Line{Name: a[0], Count: api.Span{Lo: a[1], Hi: a[2]}})
	}
	return api.Note{Kind: api.NoteSheet, Sheet: s}, api.OK
}

// aboutLine returns a note of a kind about the line of which the first three numbers tell.
func aboutLine(kind int, a []int) api.Note {
	return api.Note{Kind: kind, Ref: api.Name{House: a[0], Num: a[1]}, Line: a[2]}
}

func judged(kind int) content {
	return func(a []int) (api.Note, api.Errno) { return aboutLine(kind, a), api.OK }
}

func calledOf(a []int) (api.Note, api.Errno) {
	n := aboutLine(api.NoteName, a)
	n.Names = a[3:]
	return n, api.OK
}

func voucherOf(a []int) (api.Note, api.Errno) {
	n := aboutLine(api.NoteVoucher, a)
	n.Seen = a[3:]
	return n, api.OK
}

func listOf(a []int) (api.Note, api.Errno) {
	x, e := changeOf(a)
	return api.Note{Kind: api.NoteChange, Change: x}, e
}

func seriesOf(a []int) (api.Note, api.Errno) {
	s := api.Series{
		Observer: a[0], Said: a[1], Year: a[2], From: a[3], To: a[4],
		Name: a[5], Count: api.Span{Lo: a[6], Hi: a[7]},
	}
	return api.Note{Kind: api.NoteSeries, Series: s}, api.OK
}

func undoOf(a []int) (api.Note, api.Errno) {
	return api.Note{Kind: api.NoteWithdraw, Ref: api.Name{House: a[0], Num: a[1]}}, api.OK
}
