package posts_test

import (
	"math/rand/v2"
	"slices"
	"testing"

	"noctuary/api"
	"noctuary/posts"
	"noctuary/register"
)

func do(house int, n api.Note) api.Act { return api.Act{Kind: api.ActDo, House: house, Note: n} }

func sync(house int) api.Act { return api.Act{Kind: api.ActSync, House: house} }

func post(house, to int) api.Act { return api.Act{Kind: api.ActPost, House: house, To: to} }

// mail is an act with a letter.
func mail(kind, i int) api.Act { return api.Act{Kind: kind, Index: i} }

func crash(house, keep, torn, bytes int) api.Act {
	return api.Act{Kind: api.ActCrash, House: house, Keep: keep, Flip: torn, Index: bytes}
}

func lost(house int) api.Act { return crash(house, 0, -1, 0) }

// mustStep lets acts happen one after the other.
func mustStep(t *testing.T, w *posts.World, l ...api.Act) {
	t.Helper()
	for _, a := range l {
		if e := w.Step(a); e != api.OK {
			t.Fatalf("Step of %s: error %d", short(a), e)
		}
	}
}

// stateOf tells all that can be asked of a world.
func stateOf(w *posts.World) string {
	var l []any
	for house := 1; house <= api.MaxHouses; house++ {
		n, e := w.Notes(house)
		l = append(l, n, e)
	}
	return text(append(l, w.Mails()))
}

// wantFailing checks that an act fails, and changes nothing.
func wantFailing(t *testing.T, w *posts.World, a api.Act, want api.Errno) {
	t.Helper()
	before := stateOf(w)
	if e := w.Step(a); e != want || stateOf(w) != before {
		t.Errorf("Step of %s: error %d, want %d; or something happened", short(a), e, want)
	}
}

func wantNotes(t *testing.T, w *posts.World, house int, want ...api.Note) {
	t.Helper()
	l, e := w.Notes(house)
	wantBoth(t, "Notes of "+text(house), l, e, want, api.OK)
}

// P9.1 (O21, O24): worlds.
func TestNewWorld(t *testing.T) {
	for n := 1; n <= api.MaxHouses; n++ {
		w := newWorld(t, n)
		wantSame(t, "Mails", w.Mails(), nil)
		for house := -1; house <= 10; house++ {
			l, e := w.Notes(house)
			if house >= 1 && house <= n {
				wantBoth(t, "Notes", l, e, nil, api.OK)
				mustStep(t, w, do(house, caught(1, 1)))
				wantNotes(t, w, house, called(caught(1, 1), house, 1, 1))
			} else {
				wantError(t, "Notes of no house", l, e, api.ErrNone)
				wantFailing(t, w, do(house, caught(1, 1)), api.ErrArg)
			}
		}
	}
	for _, n := range []int{0, -1, 9, huge, -huge - 1} {
		w, e := posts.NewWorld(base(), n)
		if w != nil || e != api.ErrArg {
			t.Errorf("NewWorld of %d houses: %v, error %d", n, w, e)
		}
	}
	for what, b := range wrongBases() {
		w, e := posts.NewWorld(b, 1)
		if w != nil || e != api.ErrArg {
			t.Errorf("NewWorld with a wrong base: %s: %v, error %d", what, w, e)
		}
	}
}

// P9.1: methods of worlds that NewWorld did not make.
func TestNoWorld(t *testing.T) {
	for _, w := range []*posts.World{nil, {}} {
		for _, a := range []api.Act{{}, do(1, caught(1, 1)), sync(1), post(1, 2), mail(api.ActDeliver, 0), mail(api.ActLose, 0), mail(api.ActDouble, 0), lost(1)} {
			wantSame(t, "Step", w.Step(a), api.ErrArg)
		}
		wantSame(t, "Settle", w.Settle(), api.ErrArg)
		l, e := w.Notes(1)
		wantError(t, "Notes", l, e, api.ErrArg)
		l, e = w.Notes(0)
		wantError(t, "Notes of no house", l, e, api.ErrArg)
		wantSame(t, "Mails", w.Mails(), nil)
	}
}

// P9.1 (O22): what happens, with anything in the fields that the table does not name.
func TestSteps(t *testing.T) {
	w := newWorld(t, 3)
	n := called(caught(1, 1, line(1, 1, 1)), 1, 1, 1)
	first, empty := letterOf(known(1), n), letterOf(known())
	mustStep(t, w,
		api.Act{Kind: api.ActDo, House: 1, To: -1, Index: -1, Note: n, Keep: -1, Flip: -9},
		api.Act{Kind: api.ActPost, House: 1, To: 2, Index: -1, Note: api.Note{Kind: 99}, Keep: -1, Flip: -9},
		post(3, 1),
		api.Act{Kind: api.ActDouble, House: -1, To: 99, Keep: -1, Flip: -9},
		mail(api.ActDouble, 1),
	)
	wantSame(t, "Mails", w.Mails(), []api.Mail{{From: 1, To: 2, Body: first}, {From: 3, To: 1, Body: empty}, {From: 1, To: 2, Body: first}, {From: 3, To: 1, Body: empty}})
	mustStep(t, w, api.Act{Kind: api.ActLose, House: -1, To: 99, Index: 1, Keep: -1, Flip: -9})
	wantSame(t, "Mails behind a loss", w.Mails(), []api.Mail{{From: 1, To: 2, Body: first}, {From: 1, To: 2, Body: first}, {From: 3, To: 1, Body: empty}})
	mustStep(t, w, api.Act{Kind: api.ActDeliver, House: -1, To: 99, Index: 1, Keep: -1, Flip: -9})
	wantSame(t, "Mails behind a delivery", w.Mails(), []api.Mail{{From: 1, To: 2, Body: first}, {From: 3, To: 1, Body: empty}})
	wantNotes(t, w, 2, n)
	wantNotes(t, w, 3)
	mustStep(t, w, api.Act{Kind: api.ActCrash, House: 2, To: -1, Keep: 1, Flip: 1, Index: 32})
	wantNotes(t, w, 2, n)
	own := judged(1, api.NoteAccept, name(1, 1), 0)
	mustStep(t, w, do(2, own))
	wantNotes(t, w, 2, n, called(own, 2, 1, 2))
	mustStep(t, w, lost(2))
	wantNotes(t, w, 2, n)
	mustStep(t, w, do(2, own), api.Act{Kind: api.ActSync, House: 2, To: -1, Index: -1, Keep: -1, Flip: -9}, lost(2))
	wantNotes(t, w, 2, n, called(own, 2, 1, 2))
	mustStep(t, w, mail(api.ActLose, 0), mail(api.ActDeliver, 0))
	wantSame(t, "Mails behind all", w.Mails(), nil)
	mustStep(t, w, post(1, 3))
	wantSame(t, "Mails", w.Mails(), []api.Mail{{From: 1, To: 3, Body: first}})
}

// P9.1 (O22): errors, with which nothing happens.
func TestStepErrors(t *testing.T) {
	w := newWorld(t, 2)
	mustStep(t, w, do(1, caught(1, 1)), post(1, 2))
	for _, kind := range []int{0, 8, -1, huge, -huge - 1} {
		wantFailing(t, w, api.Act{Kind: kind, House: 1, To: 2, Note: caught(1, 2), Flip: -1}, api.ErrArg)
	}
	for _, house := range []int{0, 3, -1, huge, -huge - 1} {
		wantFailing(t, w, do(house, caught(1, 2)), api.ErrArg)
		wantFailing(t, w, do(house, api.Note{}), api.ErrArg)
		wantFailing(t, w, sync(house), api.ErrArg)
		wantFailing(t, w, post(house, 1), api.ErrArg)
		wantFailing(t, w, post(1, house), api.ErrArg)
		wantFailing(t, w, post(house, house), api.ErrArg)
		wantFailing(t, w, lost(house), api.ErrArg)
		wantFailing(t, w, crash(house, 0, 99, 0), api.ErrArg)
	}
	wantFailing(t, w, post(1, 1), api.ErrArg)
	wantFailing(t, w, do(2, api.Note{Kind: 10}), api.ErrNote)
	wantFailing(t, w, do(1, caught(1, 1)), api.ErrPlace)
	wantFailing(t, w, crash(2, 0, 0, 0), api.ErrArg)
	wantFailing(t, w, crash(1, -1, -1, 0), api.ErrArg)
	wantFailing(t, w, crash(1, 0, -1, 33), api.ErrArg)
	for _, i := range []int{1, -1, huge, -huge - 1} {
		for _, kind := range []int{api.ActDeliver, api.ActLose, api.ActDouble} {
			wantFailing(t, w, mail(kind, i), api.ErrNone)
		}
	}
}

// P9.1 (O22): posting syncs, if it is done.
func TestPostSyncs(t *testing.T) {
	w := newWorld(t, 2)
	mustStep(t, w, do(1, caught(1, 1)), post(1, 2), do(1, caught(1, 2)), lost(1))
	wantNotes(t, w, 1, called(caught(1, 1), 1, 1, 1))
	mustStep(t, w, do(1, caught(1, 2)))
	for _, a := range []api.Act{post(1, 1), post(1, 3), post(3, 1)} {
		wantFailing(t, w, a, api.ErrArg)
	}
	mustStep(t, w, lost(1))
	wantNotes(t, w, 1, called(caught(1, 1), 1, 1, 1))
}

// P9.1 (O22): at most MaxMail letters are under way.
func TestMaxMail(t *testing.T) {
	w := newWorld(t, 2)
	mustStep(t, w, post(1, 2))
	for i := range 62 {
		mustStep(t, w, []api.Act{post(2, 1), mail(api.ActDouble, i)}[i%2])
	}
	mustStep(t, w, mail(api.ActDouble, 0))
	if n := len(w.Mails()); n != api.MaxMail {
		t.Fatalf("%d letters", n)
	}
	mustStep(t, w, do(1, caught(1, 1)))
	wantFailing(t, w, post(1, 2), api.ErrLimit)
	wantFailing(t, w, post(1, 1), api.ErrArg)
	wantFailing(t, w, post(1, 3), api.ErrArg)
	wantFailing(t, w, mail(api.ActDouble, 63), api.ErrLimit)
	wantFailing(t, w, mail(api.ActDouble, 64), api.ErrNone)
	wantFailing(t, w, mail(api.ActDouble, -1), api.ErrNone)
	mustStep(t, w, lost(1))
	wantNotes(t, w, 1) // the post that was not done did not sync
	mustStep(t, w, mail(api.ActLose, 63), post(1, 2))
	wantFailing(t, w, post(2, 1), api.ErrLimit)
	mustStep(t, w, mail(api.ActDeliver, 5), mail(api.ActDouble, 0))
	wantFailing(t, w, mail(api.ActDouble, 0), api.ErrLimit)
}

func mustNotes(t *testing.T, w *posts.World, house int) []api.Note {
	t.Helper()
	l, e := w.Notes(house)
	if e != api.OK {
		t.Fatalf("Notes: error %d", e)
	}
	return l
}

// many lets a house do some notes.
func many(t *testing.T, w *posts.World, house, count int) {
	t.Helper()
	for range count {
		mustStep(t, w, do(house, undone(0, name(1, 1))))
	}
}

// P9.1 (O22): a letter that brings too many notes is not under way any more, and what it tells of its sender is heard.
func TestLetterOfTooManyNotes(t *testing.T) {
	w := newWorld(t, 2)
	many(t, w, 1, 198)
	many(t, w, 2, 198)
	wantSame(t, "Settle", w.Settle(), api.OK)
	many(t, w, 1, 3)
	many(t, w, 2, 2)
	mustStep(t, w, post(2, 1), mail(api.ActDeliver, 0), post(1, 2), post(2, 1))
	l := mustNotes(t, w, 2)
	wantSame(t, "the letter", w.Mails()[0].Body, letterOf(known(201, 198), mustNotes(t, w, 1)[198:201]...))
	wantSame(t, "Step", w.Step(mail(api.ActDeliver, 0)), api.ErrLimit)
	wantNotes(t, w, 2, l...)
	wantSame(t, "how many letters there are", len(w.Mails()), 1)
	mustStep(t, w, mail(api.ActLose, 0), post(2, 1))
	wantSame(t, "the letter back", w.Mails()[0].Body, letterOf(known(198, 200), l[396:]...))
}

// P9.1 (O23): with too many notes nothing happens; with as many as there may be all houses know them.
func TestSettleLimit(t *testing.T) {
	w := newWorld(t, 3)
	many(t, w, 1, 200)
	mustStep(t, w, sync(1))
	many(t, w, 1, 1)
	many(t, w, 2, 200)
	before := stateOf(w)
	wantSame(t, "Settle of 401 notes", w.Settle(), api.ErrLimit)
	wantSame(t, "what is there", stateOf(w), before)
	mustStep(t, w, lost(1))
	wantSame(t, "how many are left", len(mustNotes(t, w, 1)), 200)
	wantSame(t, "Settle of 400 notes", w.Settle(), api.OK)
	wantSame(t, "Settle again", w.Settle(), api.OK)
	l := mustNotes(t, w, 2)
	mustStep(t, w, lost(1), lost(2), lost(3))
	for house := 1; house <= 3; house++ {
		wantNotes(t, w, house, l...)
		wantFailing(t, w, do(house, caught(1, 1)), api.ErrLimit)
	}
	wantSame(t, "how many there are", len(l), 400)
}

// P9.1 (O23): letters, and what is heard, stay.
func TestSettle(t *testing.T) {
	w := newWorld(t, 2)
	a, b := called(caught(1, 1), 1, 1, 1), called(caught(1, 1), 2, 1, 1)
	mustStep(t, w, do(1, a), do(2, b), post(1, 2), post(1, 2), mail(api.ActDeliver, 0))
	mails := w.Mails()
	wantSame(t, "Settle", w.Settle(), api.OK)
	wantSame(t, "Mails", w.Mails(), mails)
	mustStep(t, w, lost(1))
	wantNotes(t, w, 1, a, b)
	wantNotes(t, w, 2, a, b)
	mustStep(t, w, post(2, 1), post(1, 2))
	mails = append(mails, api.Mail{From: 2, To: 1, Body: letterOf(known(1, 1), b)}, api.Mail{From: 1, To: 2, Body: letterOf(known(1, 1), a, b)})
	wantSame(t, "Mails", w.Mails(), mails)
	wantSame(t, "Settle of one house", newWorld(t, 1).Settle(), api.OK)
}

// sent is a letter by the chapter's words.
type sent struct {
	mail   api.Mail
	counts []int
	notes  []api.Note
}

// town is a world by the chapter's words.
type town struct {
	houses []*diary // from the index 1 on
	mails  []sent
}

func newTown(n int) *town {
	out := &town{houses: []*diary{nil}}
	for id := 1; id <= n; id++ {
		out.houses = append(out.houses, &diary{id: id})
	}
	return out
}

func (w *town) step(a api.Act) api.Errno {
	names := a.Kind == api.ActDo || a.Kind == api.ActSync || a.Kind == api.ActPost || a.Kind == api.ActCrash
	isHouse := func(id int) bool { return id >= 1 && id < len(w.houses) }
	if names && !isHouse(a.House) || a.Kind == api.ActPost && (!isHouse(a.To) || a.To == a.House) {
		return api.ErrArg
	}
	if !names && (a.Index < 0 || a.Index >= len(w.mails)) {
		return api.ErrNone
	}
	if len(w.mails) == api.MaxMail && (a.Kind == api.ActPost || a.Kind == api.ActDouble) {
		return api.ErrLimit
	}
	switch a.Kind {
	case api.ActDo:
		return w.houses[a.House].do(a.Note)
	case api.ActSync:
		w.houses[a.House].synced = len(w.houses[a.House].notes)
	case api.ActPost:
		h := w.houses[a.House]
		h.synced = len(h.notes)
		x := sent{counts: h.counts(), notes: h.gift(a.To)}
		x.mail = api.Mail{From: a.House, To: a.To, Body: letterOf(x.counts, x.notes...)}
		w.mails = append(w.mails, x)
	case api.ActDeliver:
		x := w.mails[a.Index]
		w.houses[x.mail.To].take(x.mail.From, x.counts, x.notes)
		w.mails = slices.Delete(w.mails, a.Index, a.Index+1)
	case api.ActLose:
		w.mails = slices.Delete(w.mails, a.Index, a.Index+1)
	case api.ActDouble:
		w.mails = append(w.mails, w.mails[a.Index])
	case api.ActCrash:
		return w.houses[a.House].crash(a.Keep, a.Flip, a.Index)
	}
	return api.OK
}

// settle lets all houses hear all notes.
func (w *town) settle() {
	all := &diary{}
	for _, h := range w.houses[1:] {
		for _, n := range h.set() {
			if all.count(n.House) < n.Num {
				all.hear([]api.Note{n})
			}
		}
	}
	for _, h := range w.houses[1:] {
		h.hear(all.set())
		h.synced = len(h.notes)
	}
}

// someAct returns an act that may happen in a world, or nearly so.
func someAct(r *rand.Rand, houses, mails int) api.Act {
	house := 1 + r.IntN(houses)
	switch r.IntN(16) {
	case 0:
		return sync(house)
	case 1, 2, 3:
		return post(house, r.IntN(houses+2))
	case 4, 5, 6, 7:
		return mail(api.ActDeliver, r.IntN(mails+1))
	case 8:
		return mail(pick(r, api.ActDouble, api.ActLose), r.IntN(mails+1))
	case 9:
		keep, torn, bytes := someCrash(r)
		return crash(house, keep, torn, bytes)
	}
	return do(house, someNote(r))
}

// eachWorld lets many things happen in worlds, and calls a test behind each of them, until it fails.
func eachWorld(t *testing.T, count, acts int, do func(r *rand.Rand, w *posts.World, by *town, a api.Act, e api.Errno)) {
	t.Helper()
	r := random()
	for range count {
		n := 1 + r.IntN(4)
		w, by := newWorld(t, n), newTown(n)
		for range acts {
			a := someAct(r, n, len(by.mails))
			e := by.step(a)
			if got := w.Step(a); got != e {
				t.Fatalf("Step of %s: error %d, want %d", short(a), got, e)
			}
			if r.IntN(40) == 0 {
				by.settle()
				wantSame(t, "Settle", w.Settle(), api.OK)
			}
			do(r, w, by, a, e)
			if t.Failed() {
				t.Fatalf("behind the act %s", short(a))
			}
		}
	}
}

// P9.1 (O17 to O25), P9.4: worlds are as the chapter's words say.
func TestWorldsByTheWords(t *testing.T) {
	errors := map[api.Errno]int{}
	eachWorld(t, 80, 90, func(_ *rand.Rand, w *posts.World, by *town, a api.Act, e api.Errno) {
		errors[e]++
		for id, h := range by.houses {
			if id > 0 {
				wantNotes(t, w, id, h.set()...)
			}
		}
		var mails []api.Mail
		for _, x := range by.mails {
			mails = append(mails, x.mail)
		}
		wantSame(t, "Mails", w.Mails(), mails)
	})
	for _, e := range []api.Errno{api.OK, api.ErrArg, api.ErrNone, api.ErrNote, api.ErrPlace} {
		if errors[e] < 20 {
			t.Errorf("the error %d came %d times", e, errors[e])
		}
	}
}

// P9.5: behind Settle all houses know what any of them knew, and have one register.
func TestOneRegister(t *testing.T) {
	eachWorld(t, 40, 60, func(r *rand.Rand, w *posts.World, by *town, _ api.Act, _ api.Errno) {
		if r.IntN(20) > 0 {
			return
		}
		all := map[api.Name]api.Note{}
		for house := 1; house < len(by.houses); house++ {
			for _, n := range mustNotes(t, w, house) {
				all[nameOf(n)] = n
			}
		}
		by.settle()
		wantSame(t, "Settle", w.Settle(), api.OK)
		first := mustNotes(t, w, 1)
		want, e := register.Fold(base(), first)
		if e != api.OK || len(first) != len(all) {
			t.Errorf("Fold: error %d; %d notes, want %d", e, len(first), len(all))
		}
		for _, n := range first {
			wantSame(t, "a note", n, all[nameOf(n)])
		}
		for house := 2; house < len(by.houses); house++ {
			wantNotes(t, w, house, first...)
			got, e := register.Fold(base(), mustNotes(t, w, house))
			wantBoth(t, "Fold", got, e, want, api.OK)
		}
	})
}

// ownOf returns the notes of a list that are a house's own.
func ownOf(l []api.Note, house int) []api.Note {
	var out []api.Note
	for _, n := range l {
		if n.House == house {
			out = append(out, n)
		}
	}
	return out
}

// P9.6: what is known of a house is a beginning of what it did itself.
func TestHonestHouses(t *testing.T) {
	eachWorld(t, 60, 80, func(_ *rand.Rand, w *posts.World, by *town, a api.Act, e api.Errno) {
		if a.Kind == api.ActDo && e == api.OK {
			own := ownOf(mustNotes(t, w, a.House), a.House)
			n := own[len(own)-1]
			wantSame(t, "the note that was done", n, called(a.Note, a.House, len(own), n.Clock))
		}
		for house := 1; house < len(by.houses); house++ {
			l := mustNotes(t, w, house)
			for other := 1; other <= api.MaxHouses; other++ {
				told := ownOf(l, other)
				if other >= len(by.houses) {
					wantSame(t, "notes of no house", told, nil)
					continue
				}
				own := ownOf(mustNotes(t, w, other), other)
				if len(told) > len(own) || !same(told, own[:len(told)]) {
					t.Errorf("%d knows of %d: %s, which did %s", house, other, short(told), short(own))
				}
			}
		}
	})
}

// P9.7: a letter leaves out nothing that is lacking, as far as it has room.
func TestWhatIsHeard(t *testing.T) {
	eachWorld(t, 60, 80, func(_ *rand.Rand, w *posts.World, by *town, a api.Act, e api.Errno) {
		if a.Kind != api.ActPost || e != api.OK {
			return
		}
		told := by.mails[len(by.mails)-1].notes
		theirs := mustNotes(t, w, a.To)
		for _, n := range mustNotes(t, w, a.House) {
			has := func(l []api.Note) bool {
				return slices.ContainsFunc(l, func(x api.Note) bool { return same(x, n) })
			}
			if len(told) < api.MaxGift && !has(told) && !has(theirs) {
				t.Errorf("%s is lacking in the letter from %d to %d", short(n), a.House, a.To)
			}
		}
	})
}

// P9.7: two houses of a world that post letters in turn know all that either of them knew, whatever happened before.
func TestTurns(t *testing.T) {
	r := random()
	for range 40 {
		w, by := newWorld(t, 3), newTown(3)
		for range 150 {
			a := someAct(r, 3, len(by.mails))
			if a.Kind == api.ActDeliver && r.IntN(4) > 0 {
				continue
			}
			by.step(a)
			w.Step(a)
		}
		for len(w.Mails()) > 0 {
			mustStep(t, w, mail(api.ActLose, 0))
		}
		all := map[api.Name]bool{}
		for house := 1; house <= 2; house++ {
			for _, n := range mustNotes(t, w, house) {
				all[nameOf(n)] = true
			}
		}
		lack := len(all) - min(len(mustNotes(t, w, 1)), len(mustNotes(t, w, 2)))
		for range (lack+15)/16 + 2 {
			mustStep(t, w, post(1, 2), mail(api.ActDeliver, 0), post(2, 1), mail(api.ActDeliver, 0))
		}
		l := mustNotes(t, w, 1)
		wantSame(t, "how many they know", len(l), len(all))
		wantNotes(t, w, 2, l...)
	}
}
