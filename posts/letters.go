package posts

import (
	"slices"

	"noctuary/api"
)

// letter is what a house tells another one: how many notes of each house it knows, and some of them.
type letter struct {
	counts []int
	notes  []api.Note
}

// bytes returns a letter as it is posted.
func (x letter) bytes() []byte {
	var codes [][]byte
	for _, n := range x.notes {
		codes = append(codes, codeOf(n))
	}
	w := &writer{}
	scribe(w.number).list(&x.counts)
	elements(w.number, &codes, w.code)
	return w.made
}

// letterOf returns the letter that bytes are.
func letterOf(b api.Base, l []byte) (letter, api.Errno) {
	var x letter
	e := read(l, func(r *reader) {
		var codes [][]byte
		scribe(r.number).list(&x.counts)
		elements(r.number, &codes, r.code)
		for _, code := range codes {
			n, e := Decode(b, code)
			if e != api.OK {
				panic(e)
			}
			x.notes = append(x.notes, n)
		}
	})
	if e != api.OK || len(x.counts) != api.MaxHouses || slices.ContainsFunc(x.counts, isNoCount) {
		return letter{}, api.ErrCode
	}
	return x, api.OK
}

func isNoCount(n int) bool { return n < 0 || n > api.MaxNotes }
