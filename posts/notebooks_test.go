package posts_test

import (
	"slices"
	"testing"

	"noctuary/api"
	"noctuary/posts"
)

// wantBook checks all that can be asked of a notebook.
func wantBook(t *testing.T, what string, n *posts.Notebook, durable, pending int, records ...[]byte) {
	t.Helper()
	d, p := n.Sizes()
	if got := n.Records(); d != durable || p != pending || !same(got, records) {
		t.Errorf("%s: %d and %d pages, %d records %s; want %d and %d, %d records", what, d, p, len(got), short(got), durable, pending, len(records))
	}
}

func mustWrite(t *testing.T, n *posts.Notebook, records ...[]byte) {
	t.Helper()
	for _, x := range records {
		if e := n.Write(x); e != api.OK {
			t.Fatalf("Write of %d bytes: error %d", len(x), e)
		}
	}
}

// P9.1 (O5 to O9): pages are pending until they are synced.
func TestNotebook(t *testing.T) {
	n := posts.NewNotebook()
	wantBook(t, "an empty one", n, 0, 0)
	mustWrite(t, n, record(40))
	wantBook(t, "written", n, 0, 2, record(40))
	n.Sync()
	wantBook(t, "synced", n, 2, 0, record(40))
	mustWrite(t, n, nil, record(3))
	wantBook(t, "with more", n, 2, 2, record(40), nil, record(3))
	n.Sync()
	n.Sync()
	wantBook(t, "synced again", n, 4, 0, record(40), nil, record(3))
	var zero posts.Notebook
	wantBook(t, "the zero one", &zero, 0, 0)
	mustWrite(t, &zero, record(1))
	zero.Sync()
	wantBook(t, "the zero one, written", &zero, 1, 0, record(1))
	wantSame(t, "Crash of an empty one", posts.NewNotebook().Crash(1<<62-1, -1, 32), api.OK)
	var fresh posts.Notebook
	wantSame(t, "Crash of the zero one", fresh.Crash(0, -1, 0), api.OK)
}

// P9.1: methods of a nil pointer.
func TestNoNotebook(t *testing.T) {
	var n *posts.Notebook
	wantSame(t, "Write", n.Write(nil), api.ErrArg)
	wantSame(t, "Write of much", n.Write(record(api.MaxBody+1)), api.ErrArg)
	wantSame(t, "Crash", n.Crash(0, -1, 0), api.ErrArg)
	n.Sync()
	wantBook(t, "nil", n, 0, 0)
}

// P9.1 (O6): the limits of a record and of all pages.
func TestNotebookLimits(t *testing.T) {
	n := posts.NewNotebook()
	wantSame(t, "a long record", n.Write(record(api.MaxBody+1)), api.ErrLimit)
	wantBook(t, "without it", n, 0, 0)
	for i := range 111 {
		mustWrite(t, n, record(api.MaxBody))
		if i == 50 {
			n.Sync()
		}
	}
	d, p := n.Sizes()
	if d != 51*586 || p != 60*586 {
		t.Fatalf("%d and %d pages", d, p)
	}
	left := 65536 - 111*586
	wantSame(t, "a page too many", n.Write(record(28*left-1)), api.ErrLimit)
	wantSame(t, "Sizes", len(n.Records()), 111)
	mustWrite(t, n, record(28*left-2))
	wantSame(t, "a record in a full one", n.Write(nil), api.ErrLimit)
	l := n.Records()
	wantSame(t, "the last record", l[len(l)-1], record(28*left-2))
	if d, p = n.Sizes(); d+p != 65536 || len(l) != 112 {
		t.Errorf("%d and %d pages, %d records", d, p, len(l))
	}
	wantSame(t, "Crash", n.Crash(0, -1, 0), api.OK)
	mustWrite(t, n, record(3))
	wantBook(t, "behind a crash", n, 51*586, 1, append(slices.Clone(l[:51]), record(3))...)
}

// P9.1 (O10): every crash of a few pages, by the chapter's words.
func TestCrashes(t *testing.T) {
	records := [][]byte{record(30), record(2), record(40), nil}
	pages, ends := bookOf(records...)
	for _, durable := range []int{0, 1, 2, 4} { // records
		from := append([]int{0}, ends...)[durable]
		pending := len(pages) - from
		for keep := range 1 << pending {
			for torn := -1; torn < pending; torn++ {
				for bytes := 0; bytes <= 32 && (torn >= 0 || bytes <= 1); bytes++ {
					n := posts.NewNotebook()
					mustWrite(t, n, records[:durable]...)
					n.Sync()
					mustWrite(t, n, records[durable:]...)
					if e := n.Crash(keep, torn, bytes); e != api.OK {
						t.Fatalf("Crash: error %d", e)
					}
					left, size := 0, 0
					for i := range pending {
						if i == torn || keep>>i&1 == 1 {
							size = i + 1
						}
					}
					for left < pending && isLeft(pages[from+left], left, keep, torn, bytes) {
						left++
					}
					want, _ := ahead(records, ends, from+left)
					wantBook(t, "behind a crash", n, from+size, 0, want...)
				}
			}
		}
	}
}

// P9.1 (O10): what is written behind a page that was lost is not told, and takes its number from all pages.
func TestBehindACrash(t *testing.T) {
	n := posts.NewNotebook()
	mustWrite(t, n, record(1), record(2), record(3))
	wantSame(t, "Crash", n.Crash(5, -1, 0), api.OK)
	wantBook(t, "with a gap", n, 3, 0, record(1))
	mustWrite(t, n, record(4))
	wantBook(t, "with a record behind the gap", n, 3, 1, record(1))
	wantSame(t, "Crash", n.Crash(0, -1, 0), api.OK)
	wantBook(t, "with what was durable", n, 3, 0, record(1))
	m := posts.NewNotebook()
	mustWrite(t, m, record(1), record(2), record(3))
	wantSame(t, "Crash", m.Crash(1, -1, 0), api.OK)
	wantBook(t, "without the last ones", m, 1, 0, record(1))
	mustWrite(t, m, record(4))
	wantBook(t, "with another one", m, 1, 1, record(1), record(4))
}

// P9.1 (O10): more pending pages than keep tells of.
func TestCrashOfManyPages(t *testing.T) {
	many := func() *posts.Notebook {
		n := posts.NewNotebook()
		for range 65 {
			mustWrite(t, n, record(1))
		}
		return n
	}
	all := make([][]byte, 65)
	for i := range all {
		all[i] = record(1)
	}
	for _, x := range []struct{ keep, torn, bytes, size, told int }{
		{1<<62 - 1, -1, 0, 62, 62}, {1<<62 - 1, 62, 32, 63, 63}, {1<<62 - 1, 62, 0, 63, 62}, {1<<62 - 1, 63, 32, 64, 62}, {1<<62 - 1, 64, 0, 65, 62},
		{1 << 61, -1, 0, 62, 0}, {1<<61 - 1, 61, 32, 62, 62}, {1<<61 - 1, -1, 32, 61, 61}, {0, 64, 0, 65, 0}, {0, 0, 32, 1, 1},
	} {
		n := many()
		wantSame(t, "Crash", n.Crash(x.keep, x.torn, x.bytes), api.OK)
		wantBook(t, text(x), n, x.size, 0, all[:x.told]...)
	}
	n := many()
	n.Sync()
	wantSame(t, "Crash of a synced one", n.Crash(0, -1, 0), api.OK)
	wantBook(t, "a synced one", n, 65, 0, all...)
	mustWrite(t, n, record(1))
	wantSame(t, "Crash with more bits than pages", n.Crash(1<<62-2, -1, 0), api.OK)
	wantBook(t, "without the new one", n, 65, 0, all...)
}

// P9.1 (O10): a torn page is as it was if all that is lost of it was 0.
func TestTornPages(t *testing.T) {
	low := pagesOf(0, []byte{7})[0]
	if low[31] != 0 {
		t.Fatal("the check of the page is great")
	}
	for bytes, want := range map[int][][]byte{31: {{7}}, 32: {{7}}, 30: nil} {
		n := posts.NewNotebook()
		mustWrite(t, n, []byte{7})
		wantSame(t, "Crash", n.Crash(0, 0, bytes), api.OK)
		wantBook(t, "a torn page", n, 1, 0, want...)
	}
}

// P9.1 (O10): errors, with which nothing happens.
func TestCrashErrors(t *testing.T) {
	for _, synced := range []bool{false, true} {
		n := posts.NewNotebook()
		mustWrite(t, n, record(3), record(30))
		pages := 3
		if synced {
			n.Sync()
			pages = 0
		}
		for _, x := range [][3]int{
			{-1, -1, 0}, {1 << 62, -1, 0}, {huge, -1, 0}, {-huge - 1, -1, 0},
			{0, -2, 0}, {0, -huge - 1, 0}, {0, pages, 0}, {0, pages + 1, 0}, {0, huge, 0},
			{0, -1, -1}, {0, -1, 33}, {0, -1, huge}, {0, pages - 1, 33}, {0, pages - 1, -1}, {0, pages - 1, -huge - 1},
		} {
			wantSame(t, "Crash"+text(x), n.Crash(x[0], x[1], x[2]), api.ErrArg)
			wantBook(t, "behind an error", n, 3-pages, pages, record(3), record(30))
		}
	}
}
