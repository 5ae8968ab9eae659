package posts_test

import (
	"slices"
	"testing"

	"noctuary/api"
	"noctuary/posts"
)

// P9.1 (O17): what a letter has in it.
func TestLetter(t *testing.T) {
	h := newHouse(t, base(), 2)
	l, e := h.Letter(1)
	wantBoth(t, "a letter of nothing", l, e, []byte{16, 0, 0, 0, 0, 0, 0, 0, 0, 0}, api.OK)
	ones, threes := manyOf(1, 10), manyOf(3, 70)
	mustHear(t, h, threes...)
	mustHear(t, h, ones...)
	own := mustDo(t, h, caught(1, 1, line(2, 1, 1, 3, 7)))
	l, e = h.Letter(1)
	want := letterOf(known(10, 1, 70), slices.Concat(ones, []api.Note{own}, threes[:5])...)
	wantBoth(t, "the first letter", l, e, want, api.OK)
	l, e = h.Letter(8)
	wantBoth(t, "the letter to another one", l, e, want, api.OK)
	k, e := h.Take(1, letterOf(known(9, 3, 60)))
	wantBoth(t, "Take of counts", k, e, 0, api.OK)
	l, e = h.Letter(1)
	wantBoth(t, "a letter of what is lacking", l, e, letterOf(known(10, 1, 70), append(ones[9:], threes[60:]...)...), api.OK)
	l, e = h.Letter(8)
	wantBoth(t, "the letter to one that was not heard of", l, e, want, api.OK)
	h.Take(1, letterOf(known(10, 1, 53)))
	l, e = h.Letter(1)
	wantBoth(t, "a letter of ten", l, e, letterOf(known(10, 1, 70), threes[60:]...), api.OK)
	h.Take(1, letterOf(known(400, 400, 400)))
	l, e = h.Letter(1)
	wantBoth(t, "a letter of nothing that is lacking", l, e, letterOf(known(10, 1, 70)), api.OK)
}

// P9.1 (O17): a letter has at most MaxGift notes, and as many if there are.
func TestGifts(t *testing.T) {
	for _, count := range []int{0, 1, 15, 16, 17, 18, 400} {
		h := newHouse(t, base(), 2)
		all := manyOf(1, count)
		mustHear(t, h, all...)
		l, e := h.Letter(1)
		wantBoth(t, "Letter", l, e, letterOf(known(count), all[:min(count, 16)]...), api.OK)
	}
}

// P9.1 (O17): a house syncs ahead of each letter, but not ahead of an error.
func TestLetterSyncs(t *testing.T) {
	for to := -1; to <= 10; to++ {
		h := newHouse(t, base(), 3)
		n := mustDo(t, h, caught(1, 1))
		l, e := h.Letter(to)
		right := to >= 1 && to <= 8 && to != 3
		if right {
			wantBoth(t, "Letter", l, e, letterOf(known(0, 0, 1), n), api.OK)
		} else {
			wantError(t, "Letter to a wrong house", l, e, api.ErrArg)
		}
		h.Crash(0, -1, 0)
		wantSame(t, "whether the note is left", len(h.Notes()) == 1, right)
	}
}

// P9.1 (O16, O19): what is heard of a house is the greatest of what its letters told.
func TestHeard(t *testing.T) {
	h := newHouse(t, base(), 4)
	for _, x := range []struct {
		from       int
		told, want []int
	}{
		{1, known(3, 0, 400), known(3, 0, 400)},
		{1, known(2, 1, 0, 0, 0, 0, 0, 7), known(3, 1, 400, 0, 0, 0, 0, 7)},
		{8, known(1), known(1)},
		{1, known(), known(3, 1, 400, 0, 0, 0, 0, 7)},
		{1, known(4, 4, 4, 4, 4, 4, 4, 4), known(4, 4, 400, 4, 4, 4, 4, 7)},
	} {
		n, e := h.Take(x.from, letterOf(x.told))
		wantBoth(t, "Take", n, e, 0, api.OK)
		wantSame(t, "Heard", h.Heard(x.from), x.want)
		wantSame(t, "Heard of another one", h.Heard(5), known())
		wantSame(t, "Heard of itself", h.Heard(4), known())
	}
	for _, house := range []int{0, 9, -1, huge, -huge - 1} {
		wantSame(t, "Heard of no house", h.Heard(house), nil)
	}
}

// P9.1 (O19): notes of a letter are heard.
func TestTake(t *testing.T) {
	h := newHouse(t, base(), 1)
	l := manyOf(2, 300)
	n, e := h.Take(3, letterOf(known(0, 9), l[1], l[0], l[0], l[1], l[3]))
	wantBoth(t, "Take", n, e, 2, api.OK)
	wantSame(t, "Notes", h.Notes(), l[:2])
	n, e = h.Take(3, letterOf(known(), l...))
	wantBoth(t, "Take of many", n, e, 298, api.OK)
	wantSame(t, "Notes", h.Notes(), l)
	n, e = h.Take(2, letterOf(known(0, 300), l...))
	wantBoth(t, "Take of what is known", n, e, 0, api.OK)
	for i, x := range oneOfEach() {
		k := newHouse(t, base(), 1)
		x = called(x, 2, 1, i+1)
		n, e = k.Take(2, letterOf(known(), x))
		wantBoth(t, "Take of each kind", n, e, 1, api.OK)
		wantSame(t, "Notes", k.Notes(), []api.Note{x})
	}
}

// P9.1 (O19): with an error of Hear what is heard stays new, and nothing is added.
func TestTakeErrors(t *testing.T) {
	h := newHouse(t, wideBase(), 1)
	l := manyOf(2, 400)
	mustHear(t, h, l[0])
	other := l[0]
	other.Day = 5
	for i, x := range []struct {
		notes []api.Note
		e     api.Errno
	}{
		{[]api.Note{l[1], other}, api.ErrFork},
		{append(manyOf(3, 1), l[1:]...), api.ErrLimit},
		{[]api.Note{l[1], called(great(t, 1, api.MaxBody+1), 2, 3, 1)}, api.ErrNote},
	} {
		n, e := h.Take(2, letterOf(known(i+1), x.notes...))
		wantError(t, "Take", n, e, x.e)
		wantSame(t, "Heard", h.Heard(2), known(i+1))
		wantSame(t, "Notes", h.Notes(), l[:1])
	}
	for _, from := range []int{0, 1, 9, -1, huge, -huge - 1} {
		for _, x := range [][]byte{letterOf(known(9)), letterOf(known(9), l[1]), letterOf(known(9), other), nil} {
			n, e := h.Take(from, x)
			wantError(t, "Take from a wrong house", n, e, api.ErrArg)
		}
	}
	wantSame(t, "Notes", h.Notes(), l[:1])
	wantSame(t, "Heard", h.Heard(2), known(3))
	n, e := h.Take(2, letterOf(known(4), called(great(t, 1, api.MaxBody), 2, 2, 1)))
	wantBoth(t, "Take of a great note", n, e, 1, api.OK)
}

// P9.1 (O19): bytes that are no letter change nothing.
func TestWrongLetters(t *testing.T) {
	l := manyOf(2, 2)
	right := letterOf(known(5, 2), l...)
	bad := called(l[1], 2, 2, 0)
	code := codeOf(l[0])
	head := numbers(append(list(known(5, 2)), 1)...)
	wrong := map[string][]byte{
		"nothing":             nil,
		"seven counts":        append(numbers(append(list(known()[:7]), 1)...), right[10:]...),
		"nine counts":         append(numbers(append(list(append(known(), 0)), 2)...), right[10:]...),
		"no counts":           {0, 0},
		"a count below 0":     letterOf(known(-1), l...),
		"a last count":        letterOf(known(0, 0, 0, 0, 0, 0, 0, -1)),
		"a great count":       letterOf(known(5, 401), l...),
		"a greater one":       letterOf(known(5, 0, 1<<62-1)),
		"bytes behind":        append(slices.Clone(right), 0),
		"what is no note":     letterOf(known(5, 2), l[0], bad),
		"no notes' number":    right[:9],
		"a negative number":   append(slices.Clone(right[:9]), 1),
		"a great number":      append(numbers(append(list(known(5, 2)), 1<<62-1)...), right[10:]...),
		"a length too little": slices.Concat(head, number(len(code)-1), code),
		"a length too great":  slices.Concat(head, number(len(code)+1), code),
		"a great length":      slices.Concat(head, number(1<<62-1), code),
		"a negative length":   slices.Concat(head, number(-1), code),
		"with a byte in it":   slices.Concat(head, number(len(code)+1), code, []byte{0}),
		"an empty note":       slices.Concat(head, []byte{0}),
		"a long number":       slices.Concat([]byte{144, 0}, right[1:]),
	}
	for i := range right {
		wrong["the beginning to "+text(i)] = right[:i]
	}
	h := newHouse(t, base(), 1)
	h.Take(2, letterOf(known(1)))
	for what, x := range wrong {
		n, e := h.Take(2, x)
		wantError(t, "Take of "+what, n, e, api.ErrCode)
		wantSame(t, what+": Heard", h.Heard(2), known(1))
		wantSame(t, what+": Notes", h.Notes(), nil)
	}
	n, e := h.Take(2, right)
	wantBoth(t, "Take", n, e, 2, api.OK)
	n, e = h.Take(2, letterOf([]int{400, 400, 400, 400, 400, 400, 400, 400}))
	wantBoth(t, "Take of the greatest counts", n, e, 0, api.OK)
}

// P9.7: two houses that write to one another know all that either of them knew.
func TestLettersInTurn(t *testing.T) {
	r := random()
	for range 60 {
		pair := []*posts.House{newHouse(t, base(), 1), newHouse(t, base(), 2)}
		var all []api.Note
		lack := [2]int{}
		for house := 1; house <= 5; house++ {
			has := [2]int{r.IntN(80), r.IntN(80)}
			if house <= 2 {
				has[2-house] = r.IntN(has[house-1] + 1)
			}
			l := manyOf(house, max(has[0], has[1]))
			all = append(all, l...)
			for i, h := range pair {
				mustHear(t, h, l[:has[i]]...)
				lack[i] += len(l) - has[i]
			}
		}
		for range (max(lack[0], lack[1])+15)/16 + 2 {
			for i, h := range pair {
				l, e := h.Letter(2 - i)
				if _, took := pair[1-i].Take(i+1, l); e != api.OK || took != api.OK {
					t.Fatalf("errors %d and %d", e, took)
				}
				if !same(pair[1-i].Heard(i+1), h.Counts()) {
					t.Errorf("%v is heard of %v", pair[1-i].Heard(i+1), h.Counts())
				}
			}
		}
		wantSame(t, "Notes of 1", pair[0].Notes(), all)
		wantSame(t, "Notes of 2", pair[1].Notes(), all)
	}
}
