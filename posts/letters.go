package posts

import (
	"slices"

	"noctuary/api"
	"noctuary/codes"
)

// letter is what a house tells another one: how many notes of each house it knows, and some of them.
type letter struct {
	counts []int
	notes  []api.Note
}

// sealed is a letter as it is posted: each note is bytes of its own.
type sealed struct {
	counts []int
	notes  [][]byte
}

func sealedCode(s codes.Scribe, x *sealed) {
	codes.List(s, &x.counts)
	codes.Elements(s, &x.notes, codes.Scribe.Bytes)
}

// bytes returns a letter as it is posted.
func (x letter) bytes() []byte {
	out := sealed{counts: x.counts}
	for _, n := range x.notes {
		out.notes = append(out.notes, codeOf(n))
	}
	l, _ := codes.Code[sealed](sealedCode).Write(out)
	return l
}

// letterOf returns the letter that bytes are.
func letterOf(b api.Base, l []byte) (letter, api.Errno) {
	in, right := codes.Code[sealed](sealedCode).Read(l)
	if !right || len(in.counts) != api.MaxHouses || slices.ContainsFunc(in.counts, isNoCount) {
		return letter{}, api.ErrCode
	}
	x := letter{counts: in.counts}
	for _, code := range in.notes {
		n, e := Decode(b, code)
		if e != api.OK {
			return letter{}, e
		}
		x.notes = append(x.notes, n)
	}
	return x, api.OK
}

func isNoCount(n int) bool { return n < 0 || n > api.MaxNotes }
