package posts

import (
	"maps"
	"slices"

	"noctuary/api"
	"noctuary/register"
)

// World is houses that send one another letters.
type World struct {
	houses []*House // the house i + 1 at the index i; none, if it was not made by NewWorld
	mails  []api.Mail
}

// NewWorld returns houses without notes.
func NewWorld(b api.Base, n int) (*World, api.Errno) {
	if !isHouse(n) || register.CheckBase(b) != api.OK {
		return nil, api.ErrArg
	}
	w := &World{}
	for id := 1; id <= n; id++ {
		w.houses = append(w.houses, newHouse(coreOf(b), id))
	}
	return w, api.OK
}

func (w *World) isMade() bool { return w != nil && len(w.houses) > 0 }

// Step lets something happen.
func (w *World) Step(a api.Act) api.Errno {
	if !w.isMade() {
		return api.ErrArg
	}
	act, found := w.acts()[a.Kind]
	if !found {
		return api.ErrArg
	}
	return act(a)
}

// acts returns what happens, by the kind of an act.
func (w *World) acts() map[int]func(a api.Act) api.Errno {
	return map[int]func(a api.Act) api.Errno{
		api.ActDo:      w.do,
		api.ActSync:    w.sync,
		api.ActPost:    w.post,
		api.ActDeliver: w.deliver,
		api.ActLose:    w.lose,
		api.ActDouble:  w.double,
		api.ActCrash:   w.crash,
	}
}

// Settle lets all houses know all notes.
func (w *World) Settle() api.Errno {
	if !w.isMade() {
		return api.ErrArg
	}
	all := map[api.Name]api.Note{}
	for _, h := range w.houses {
		maps.Copy(all, h.notes)
	}
	if len(all) > api.MaxNotes {
		return api.ErrLimit
	}
	for _, h := range w.houses {
		h.Hear(inOrder(all))
		h.Sync()
	}
	return api.OK
}

// Notes returns the notes that a house knows.
func (w *World) Notes(house int) ([]api.Note, api.Errno) {
	if !w.isMade() {
		return nil, api.ErrArg
	}
	h, found := w.house(house)
	if !found {
		return nil, api.ErrNone
	}
	return h.Notes(), api.OK
}

// Mails returns the letters that are under way.
func (w *World) Mails() []api.Mail {
	if !w.isMade() {
		return nil
	}
	var out []api.Mail
	for _, m := range w.mails {
		m.Body = slices.Clone(m.Body)
		out = append(out, m)
	}
	return out
}

// house returns a house of the world, if there is such a one.
func (w *World) house(id int) (h *House, found bool) {
	if id < 1 || id > len(w.houses) {
		return nil, false
	}
	return w.houses[id-1], true
}

func (w *World) hasMail(i int) bool { return i >= 0 && i < len(w.mails) }

func (w *World) do(a api.Act) api.Errno {
	h, found := w.house(a.House)
	if !found {
		return api.ErrArg
	}
	_, e := h.Do(a.Note)
	return e
}

func (w *World) sync(a api.Act) api.Errno {
	h, found := w.house(a.House)
	if !found {
		return api.ErrArg
	}
	h.Sync()
	return api.OK
}

func (w *World) post(a api.Act) api.Errno {
	h, found := w.house(a.House)
	_, reached := w.house(a.To)
	if !found || !reached || a.House == a.To {
		return api.ErrArg
	}
	if len(w.mails) >= api.MaxMail {
		return api.ErrLimit
	}
	body, e := h.Letter(a.To)
	if e != api.OK {
		return e
	}
	w.mails = append(w.mails, api.Mail{From: a.House, To: a.To, Body: body})
	return api.OK
}

// deliver takes a letter from those under way even if the house that it is for returns an error.
func (w *World) deliver(a api.Act) api.Errno {
	if !w.hasMail(a.Index) {
		return api.ErrNone
	}
	m := w.mails[a.Index]
	w.drop(a.Index)
	h, _ := w.house(m.To)
	_, e := h.Take(m.From, m.Body)
	return e
}

func (w *World) lose(a api.Act) api.Errno {
	if !w.hasMail(a.Index) {
		return api.ErrNone
	}
	w.drop(a.Index)
	return api.OK
}

func (w *World) drop(i int) { w.mails = slices.Delete(w.mails, i, i+1) }

func (w *World) double(a api.Act) api.Errno {
	if !w.hasMail(a.Index) {
		return api.ErrNone
	}
	if len(w.mails) >= api.MaxMail {
		return api.ErrLimit
	}
	w.mails = append(w.mails, w.mails[a.Index])
	return api.OK
}

func (w *World) crash(a api.Act) api.Errno {
	h, found := w.house(a.House)
	if !found {
		return api.ErrArg
	}
	return h.Crash(a.Keep, a.Flip, a.Index)
}
