package posts_test

import (
	"bytes"
	"math/rand/v2"
	"slices"
	"testing"

	"noctuary/api"
	"noctuary/posts"
)

// record returns bytes none of which is 0.
func record(length int) []byte {
	var l []byte
	for i := range length {
		l = append(l, byte(1+i%255))
	}
	return l
}

// bookOf returns the pages of records, one list behind the other, and where those of each one end.
func bookOf(records ...[]byte) (pages [][]byte, ends []int) {
	for _, x := range records {
		pages = append(pages, pagesOf(len(pages), x)...)
		ends = append(ends, len(pages))
	}
	return pages, ends
}

func wantTold(t *testing.T, what string, pages, records [][]byte, used int) {
	t.Helper()
	got, n := posts.Told(pages)
	if !same(got, records) || n != used {
		t.Errorf("%s: %d records %s of %d pages; want %d of %d", what, len(got), short(got), n, len(records), used)
	}
}

// P9.1 (O3, O4): the chapter's examples.
func TestPageExamples(t *testing.T) {
	seven := make([]byte, 32)
	seven[1], seven[2], seven[4], seven[30] = 3, 1, 7, 45
	l, e := posts.Pages(0, []byte{7})
	wantBoth(t, "Pages(0, 7)", l, e, [][]byte{seven}, api.OK)
	wantTold(t, "Told", l, [][]byte{{7}}, 1)
	empty := make([]byte, 32)
	empty[1], empty[30] = 2, 5
	l, e = posts.Pages(256, nil)
	wantBoth(t, "Pages(256, nothing)", l, e, [][]byte{empty}, api.OK)
	wantTold(t, "Told", l, [][]byte{{}}, 1)
}

// P9.1 (O3): pages are as the chapter's words say.
func TestPages(t *testing.T) {
	for _, number := range []int{0, 1, 3, 254, 255, 256, 257, 65535, 65536, api.MaxDisk - 1, api.MaxDisk} {
		for _, length := range []int{0, 1, 25, 26, 27, 53, 54, 55, 81, 82, 83, 252, 253, 254, 255, 256, 257, 511, 512, api.MaxBody - 1, api.MaxBody} {
			l, e := posts.Pages(number, record(length))
			wantBoth(t, "Pages", l, e, pagesOf(number, record(length)), api.OK)
			if want := (length + 2 + 27) / 28; len(l) != want {
				t.Errorf("%d bytes have %d pages, not %d", length, len(l), want)
			}
		}
	}
	// the greatest sum of all: 65521 is taken away once, and twice
	for _, x := range []byte{128, 200, 255} {
		l, e := posts.Pages(255, bytes.Repeat([]byte{x}, 82))
		wantBoth(t, "Pages", l, e, pagesOf(255, bytes.Repeat([]byte{x}, 82)), api.OK)
	}
}

// P9.1 (O3): errors.
func TestPagesErrors(t *testing.T) {
	for _, number := range []int{-1, -huge - 1, api.MaxDisk + 1, huge} {
		for _, length := range []int{0, api.MaxBody, api.MaxBody + 1} {
			l, e := posts.Pages(number, record(length))
			wantError(t, "Pages of a wrong number", l, e, api.ErrArg)
		}
	}
	for _, number := range []int{0, api.MaxDisk} {
		for _, length := range []int{api.MaxBody + 1, 65536, 65537, 70000} {
			l, e := posts.Pages(number, record(length))
			wantError(t, "Pages of a long record", l, e, api.ErrLimit)
		}
	}
}

// P9.1 (O4): what is told, and what is not any more.
func TestTold(t *testing.T) {
	two := []byte{2}
	pages, _ := bookOf(record(40), two)
	wantTold(t, "nothing", nil, nil, 0)
	wantTold(t, "all", pages, [][]byte{record(40), two}, 3)
	wantTold(t, "without the last one", pages[:2], [][]byte{record(40)}, 2)
	wantTold(t, "half of a record", pages[:1], nil, 0)
	wantTold(t, "the end of a record", pages[1:], nil, 0)
	wantTold(t, "in another order", [][]byte{pages[1], pages[0], pages[2]}, nil, 0)
	wantTold(t, "with a further page of zeros", append(slices.Clone(pages), make([]byte, 32)), [][]byte{record(40), two}, 3)
	wantTold(t, "a page twice", [][]byte{pages[0], pages[1], pages[1]}, [][]byte{record(40)}, 2)
	wantTold(t, "a record twice", slices.Concat(pages[:2], pages[:2]), [][]byte{record(40)}, 2)
	for _, first := range []int{1, 255, 257} {
		wantTold(t, "from another number on", pagesOf(first, two), nil, 0)
	}
	wantTold(t, "from 256 on", pagesOf(256, two), [][]byte{two}, 1)
	for _, p := range [][]byte{nil, pages[2][:31], append(slices.Clone(pages[2]), 0), pages[2][:30], {2, 2}} {
		wantTold(t, "with a page of another length", [][]byte{pages[0], pages[1], p}, [][]byte{record(40)}, 2)
		wantTold(t, "with a page of another length within", [][]byte{pages[0], p, pages[1]}, nil, 0)
		wantTold(t, "with a page of another length ahead", [][]byte{p, pages[0], pages[1]}, nil, 0)
	}
}

// P9.1 (O4): pages whose checks are right, but which are those of no record.
func TestStrangePages(t *testing.T) {
	behind := checked(append([]byte{0, 3, 1, 0, 7}, 1))
	far := checked(append(append([]byte{0, 3, 1, 0, 7}, make([]byte, 24)...), 9))
	two := pagesOf(1, []byte{2})[0]
	for what, p := range map[string][]byte{
		"something behind the content": behind,
		"something far behind it":      far,
		"no content":                   pageOf(0),
		"half a length":                pageOf(0, 0),
		"too little content":           pageOf(0, 1, 0),
		"too much content":             pageOf(0, 0, 0, 0),
		"more content than fits":       checked([]byte{0, 29, 0, 0}),
		"another number of bytes":      checked([]byte{0, 4, 1, 0, 7}),
		"another number":               checked([]byte{1, 3, 1, 0, 7}),
		"a greater length":             pageOf(0, 1, 1, 7),
		"a check of nothing":           make([]byte, 32),
	} {
		wantTold(t, what, [][]byte{p}, nil, 0)
		wantTold(t, what, [][]byte{p, two}, nil, 0)
	}
	zero := make([]byte, 32)
	zero[1], zero[30] = 2, 4 // its check would be 5
	wantTold(t, "a check that is too low", [][]byte{zero}, nil, 0)
	head := record(40)
	split := [][]byte{pageOf(0, append([]byte{40, 0}, head[:25]...)...), pageOf(1, head[25:]...)}
	wantTold(t, "less content than a page has room for", split, nil, 0)
	split = [][]byte{pageOf(0, append([]byte{26, 0}, head[:26]...)...), pageOf(1)}
	wantTold(t, "a page without content behind the record", split, [][]byte{head[:26]}, 1)
	long := record(api.MaxBody + 1)
	wantTold(t, "a record that is too long", pagesOf(0, long), nil, 0)
	wantTold(t, "the longest record", pagesOf(0, long[1:]), [][]byte{long[1:]}, 586)
	longest := record(65535)
	wantTold(t, "a record of the greatest length", pagesOf(0, longest), nil, 0)
}

func someRecords(r *rand.Rand) [][]byte {
	var out [][]byte
	for range r.IntN(6) {
		l := record(r.IntN(pick(r, 3, 30, 90)))
		for i := range l {
			l[i] = byte(r.IntN(pick(r, 2, 256)))
		}
		out = append(out, l)
	}
	return out
}

// ahead returns the records all of whose pages stand ahead of an index.
func ahead(records [][]byte, ends []int, at int) (out [][]byte, used int) {
	for i, end := range ends {
		if end <= at {
			out, used = append(out, records[i]), end
		}
	}
	return out, used
}

// P9.2: pages tell just their records, whatever happens to one of them, as far as they stand ahead of it.
func TestPagesTellTheirRecords(t *testing.T) {
	r := random()
	for range 60 {
		records := someRecords(r)
		var pages [][]byte
		for _, x := range records {
			l, e := posts.Pages(len(pages), x)
			if e != api.OK {
				t.Fatalf("Pages: error %d", e)
			}
			pages = append(pages, l...)
		}
		_, ends := bookOf(records...)
		wantTold(t, "all", pages, records, len(pages))
		for i := range pages {
			want, used := ahead(records, ends, i)
			wantTold(t, "a beginning", pages[:i], want, used)
			for bit := range 256 {
				wantTold(t, "another bit", changed(pages, i, func(p []byte) { p[bit/8] ^= 1 << (bit % 8) }), want, used)
			}
			for from := range 32 {
				torn := changed(pages, i, func(p []byte) { clear(p[from:]) })
				if bytes.Equal(torn[i], pages[i]) {
					wantTold(t, "the same page", torn, records, len(pages))
				} else {
					wantTold(t, "a torn page", torn, want, used)
				}
			}
		}
	}
}

// changed returns pages one of which is changed.
func changed(pages [][]byte, i int, change func(p []byte)) [][]byte {
	out := slices.Clone(pages)
	out[i] = slices.Clone(pages[i])
	change(out[i])
	return out
}

// P9.2: more pages than there are different numbers of them.
func TestManyPages(t *testing.T) {
	var records, pages [][]byte
	for i := range 700 {
		x := record(i % 90)
		records = append(records, x)
		l, _ := posts.Pages(len(pages), x)
		pages = append(pages, l...)
	}
	want, _ := bookOf(records...)
	wantSame(t, "Pages", pages, want)
	wantTold(t, "all", pages, records, len(pages))
	clear(pages[len(pages)-1])
	wantTold(t, "all but the last one", pages, records[:699], len(pages)-len(pagesOf(0, records[699])))
}
