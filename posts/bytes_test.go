package posts_test

import (
	"slices"
	"testing"

	"noctuary/api"
	"noctuary/posts"
	"noctuary/register"
)

// P9.1 (Words): numbers, as the Clock of a note.
func TestNumbers(t *testing.T) {
	for clock, want := range map[int][]byte{1: {2}, 63: {126}, 64: {128, 1}, 127: {254, 1}, 128: {128, 2}, 8191: {254, 127}, 8192: {128, 128, 1}, 1 << 40: {128, 128, 128, 128, 128, 64}} {
		n := called(undone(0, name(1, 1)), 1, 1, clock)
		code, e := posts.Encode(base(), n)
		if e != api.OK || !slices.Equal(code[2:2+len(want)], want) || code[2+len(want)] != 0 {
			t.Errorf("the Clock %d: %v, error %d", clock, code, e)
		}
	}
	for n, want := range map[int][]byte{0: {0}, -1: {1}, 5: {10}, 64: {128, 1}, -65: {129, 1}, 1<<62 - 1: {254, 255, 255, 255, 255, 255, 255, 255, 127}, -1 << 62: {255, 255, 255, 255, 255, 255, 255, 255, 127}} {
		wantSame(t, "the number of the tests", number(n), want)
	}
}

// P9.1 (O1, O2), P9.3: notes of each kind.
func TestNotesAsBytes(t *testing.T) {
	for _, n := range oneOfEach() {
		code, e := posts.Encode(base(), n)
		wantBoth(t, "Encode", code, e, codeOf(n), api.OK)
		got, e := posts.Decode(base(), codeOf(n))
		wantBoth(t, "Decode", got, e, n, api.OK)
	}
	n := caught(1, 2)
	n.Sheet.Square = api.Square{X: 1023, Y: 511}
	n = called(n, 8, 400, 1<<40)
	code, e := posts.Encode(base(), n)
	want := []byte{16, 160, 6, 128, 128, 128, 128, 128, 64, 2, 2, 14, 6, 0, 254, 15, 254, 7, 4, 4, 20, 40, 0, 0, 0, 0, 0, 0, 0, 0, 0, 0, 0, 0, 0, 0, 0, 0, 0}
	wantBoth(t, "Encode of a sheet", code, e, want, api.OK)
}

// P9.1 (O1, O2): a note may have any length as bytes.
func TestGreatNotesAsBytes(t *testing.T) {
	for _, length := range []int{api.MaxBody, api.MaxBody + 1, 25000} {
		n := called(great(t, 1, length), 1, 1, 1)
		code, e := posts.Encode(wideBase(), n)
		wantBoth(t, "Encode", code, e, codeOf(n), api.OK)
		got, e := posts.Decode(wideBase(), code)
		wantBoth(t, "Decode", got, e, n, api.OK)
	}
}

// P9.1 (O1): a note that is not well-formed, and a base that is not valid.
func TestEncodeErrors(t *testing.T) {
	for _, n := range oneOfEach() {
		for what, b := range wrongBases() {
			code, e := posts.Encode(b, n)
			wantError(t, "Encode with a wrong base: "+what, code, e, api.ErrNote)
			got, e := posts.Decode(b, codeOf(n))
			wantError(t, "Decode with a wrong base: "+what, got, e, api.ErrCode)
		}
		for _, change := range []func(n *api.Note){
			func(n *api.Note) { n.House = 9 }, func(n *api.Note) { n.Num = 0 }, func(n *api.Note) { n.Clock = -1 }, func(n *api.Note) { n.Clock = huge },
			func(n *api.Note) { n.Day = -huge }, func(n *api.Note) { n.Kind = 10 }, func(n *api.Note) { n.Line = 200 }, func(n *api.Note) { n.Names = []int{2, 2} },
			func(n *api.Note) { n.Sheet.Lines = append(n.Sheet.Lines, api.Line{}) },
		} {
			x := n
			change(&x)
			code, e := posts.Encode(base(), x)
			wantError(t, "Encode of "+short(x), code, e, api.ErrNote)
			if x.Clock != huge && x.Day != -huge {
				got, e := posts.Decode(base(), codeOf(x))
				wantError(t, "Decode of "+short(x), got, e, api.ErrCode)
			}
		}
	}
}

// P9.1 (O2): bytes that are no encoding.
func TestDecodeErrors(t *testing.T) {
	for _, n := range oneOfEach() {
		code := codeOf(n)
		for i := range code {
			got, e := posts.Decode(base(), code[:i])
			wantError(t, "a beginning", got, e, api.ErrCode)
		}
		for _, x := range [][]byte{{0}, {1}, code, {128}, {255, 255, 255}} {
			got, e := posts.Decode(base(), slices.Concat(code, x))
			wantError(t, "with bytes behind", got, e, api.ErrCode)
		}
		l := flat(n)
		for i := range l {
			ahead, own, behind := numbers(l[:i]...), number(l[i]), numbers(l[i+1:]...)
			long := slices.Clone(own)
			long[len(long)-1] += 128
			longer := append(slices.Clone(long), 128, 128, 128, 128, 128, 128, 128, 128, 128)
			wide := []byte{own[0] | 128, 128, 128, 128, 128, 128, 128, 128, 128, 2} // 2^64 more, of which nothing may be left
			for _, x := range [][]byte{append(long, 0), append(longer, 0), wide, number(-1 - l[i]), number(-1), number(1<<62 - 1), number(-1 << 62)} {
				got, e := posts.Decode(base(), slices.Concat(ahead, x, behind))
				wantError(t, "with a wrong number", got, e, api.ErrCode)
			}
		}
	}
	for _, x := range [][]byte{nil, {0}, make([]byte, 29), make([]byte, 32), {255}} {
		got, e := posts.Decode(base(), x)
		wantError(t, "Decode", got, e, api.ErrCode)
	}
}

// P9.3: what is decoded from any bytes has just these bytes as its encoding.
func TestBytesUndoNotes(t *testing.T) {
	r := random()
	decoded := 0
	for range 40000 {
		n := called(someNote(r), 1+r.IntN(8), 1+r.IntN(400), 1+r.IntN(1<<pick(r, 3, 9, 40)))
		code := codeOf(n)
		for range r.IntN(3) {
			code[r.IntN(len(code))] = pick(r, 0, 1, 2, 4, 128, 130, byte(r.IntN(256)))
		}
		got, e := posts.Decode(base(), code)
		if e != api.OK {
			wantError(t, "Decode", got, e, api.ErrCode)
			continue
		}
		decoded++
		wantSame(t, "CheckNote", register.CheckNote(base(), got), api.OK)
		wantSame(t, "its numbers", numbers(flat(got)...), code)
		again, e := posts.Encode(base(), got)
		wantBoth(t, "Encode of Decode", again, e, code, api.OK)
	}
	if decoded < 10000 || decoded > 35000 {
		t.Errorf("%d were decoded", decoded)
	}
}
