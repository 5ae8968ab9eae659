package posts

import "noctuary/api"

// scribe does the same with each number of something, in the order of the encoding: a writer writes it down, a reader sets it.
type scribe func(x *int)

func (do scribe) numbers(l ...*int) {
	for _, x := range l {
		do(x)
	}
}

// elements does the same with the length of a list, and with each element. (A reader begins with an empty list.)
func elements[T any](do scribe, l *[]T, each func(x *T)) {
	n := len(*l)
	do(&n)
	if n < 0 {
		panic(api.ErrCode)
	}
	for i := range n {
		if i == len(*l) {
			var none T
			*l = append(*l, none)
		}
		each(&(*l)[i])
	}
}

func (do scribe) list(l *[]int) { elements(do, l, do) }

func (do scribe) note(n *api.Note) {
	do.numbers(&n.House, &n.Num, &n.Clock, &n.Day, &n.Kind)
	do.sheet(&n.Sheet)
	do.numbers(&n.Ref.House, &n.Ref.Num, &n.Line)
	do.list(&n.Names)
	do.list(&n.Seen)
	do(&n.Change.Year)
	do.list(&n.Change.From)
	do.list(&n.Change.To)
	do.series(&n.Series)
}

func (do scribe) sheet(s *api.Sheet) {
	do.numbers(&s.Observer, &s.Year, &s.Square.Level, &s.Square.X, &s.Square.Y, &s.Night, &s.Lamp, &s.Total.Lo, &s.Total.Hi)
	elements(do, &s.Lines, do.line)
}

func (do scribe) line(l *api.Line) {
	do.numbers(&l.Name, &l.Count.Lo, &l.Count.Hi)
	do.list(&l.Seen)
}

func (do scribe) series(s *api.Series) {
	do.numbers(&s.Observer, &s.Said, &s.Year, &s.From, &s.To, &s.Name, &s.Count.Lo, &s.Count.Hi)
}

// codeOf returns the encoding of a note, which is well-formed.
func codeOf(n api.Note) []byte {
	w := &writer{}
	scribe(w.number).note(&n)
	return w.made
}

// noteOf returns the note of which bytes are the encoding, well-formed or not.
func noteOf(l []byte) (api.Note, api.Errno) {
	var n api.Note
	e := read(l, func(r *reader) { scribe(r.number).note(&n) })
	if e != api.OK {
		return api.Note{}, e
	}
	return n, api.OK
}

// copyOf returns a note, which is well-formed, in new memory.
func copyOf(n api.Note) api.Note {
	out, _ := noteOf(codeOf(n))
	return out
}

// writer makes bytes.
type writer struct{ made []byte }

func (w *writer) number(x *int) {
	u := uint64(*x) << 1
	if *x < 0 {
		u = ^u
	}
	for ; u >= 128; u >>= 7 {
		w.made = append(w.made, byte(u)|128)
	}
	w.made = append(w.made, byte(u))
}

// code writes the length of bytes, and the bytes.
func (w *writer) code(l *[]byte) {
	n := len(*l)
	w.number(&n)
	w.made = append(w.made, *l...)
}

// reader takes bytes apart. What it cannot go on with it leaves by a panic.
type reader struct{ rest []byte }

// read lets something be read from bytes. It returns ErrCode if the reader was left, or if bytes are left over.
func read(l []byte, what func(r *reader)) (e api.Errno) {
	defer func() {
		if recover() != nil {
			e = api.ErrCode
		}
	}()
	r := &reader{rest: l}
	what(r)
	if len(r.rest) > 0 {
		panic(api.ErrCode)
	}
	return api.OK
}

func (r *reader) take(n int) []byte {
	if n < 0 || n > len(r.rest) {
		panic(api.ErrCode)
	}
	l := r.rest[:n]
	r.rest = r.rest[n:]
	return l
}

func (r *reader) number(x *int) {
	u := uint64(0)
	for shift := 0; shift < 63; shift += 7 {
		b := r.take(1)[0]
		u |= uint64(b&127) << shift
		if b >= 128 {
			continue
		}
		if b == 0 && shift > 0 {
			break // more bytes than are needed
		}
		*x = int(u >> 1)
		if u&1 == 1 {
			*x = ^*x
		}
		return
	}
	panic(api.ErrCode)
}

func (r *reader) code(l *[]byte) {
	n := 0
	r.number(&n)
	*l = r.take(n)
}
