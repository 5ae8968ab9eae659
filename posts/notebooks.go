package posts

import (
	"slices"

	"noctuary/api"
)

const (
	maxPages = 65536
	keepBits = 62 // so many pending pages a number says to keep or not
)

// Notebook is pages that are durable and pages that are pending.
type Notebook struct {
	pages   []page
	durable int // how many of them are, from the first one on
}

// NewNotebook returns an empty notebook.
func NewNotebook() *Notebook { return &Notebook{} }

// Write writes a record.
func (n *Notebook) Write(l []byte) api.Errno {
	if n == nil {
		return api.ErrArg
	}
	if len(l) > api.MaxBody || len(n.pages)+countOf(len(l)) > maxPages {
		return api.ErrLimit
	}
	n.add(l)
	return api.OK
}

// add is Write without limits.
func (n *Notebook) add(l []byte) {
	n.pages = append(n.pages, pagesOf(len(n.pages), l)...)
}

// Sync makes all pages durable.
func (n *Notebook) Sync() {
	if n != nil {
		n.durable = len(n.pages)
	}
}

// Records returns the records that all pages tell.
func (n *Notebook) Records() [][]byte {
	if n == nil {
		return nil
	}
	var out [][]byte
	for record := range told(n.pages) {
		out = append(out, record)
	}
	return out
}

// Sizes returns how many pages are durable, and pending.
func (n *Notebook) Sizes() (durable, pending int) {
	if n == nil {
		return 0, 0
	}
	return n.durable, len(n.pages) - n.durable
}

// Crash loses pending pages.
func (n *Notebook) Crash(keep, torn, bytes int) api.Errno {
	if n == nil || keep < 0 || keep>>keepBits > 0 || bytes < 0 || bytes > pageSize {
		return api.ErrArg
	}
	pending := n.pages[n.durable:]
	if torn < -1 || torn >= len(pending) {
		return api.ErrArg
	}
	n.pages = slices.Concat(n.pages[:n.durable], leftOf(pending, keep, torn, bytes))
	n.durable = len(n.pages)
	return api.OK
}

// leftOf returns what a crash leaves of pending pages.
func leftOf(pending []page, keep, torn, bytes int) []page {
	out := make([]page, len(pending))
	count := 0
	for i, p := range pending {
		switch {
		case i == torn:
			copy(out[i][:], p[:bytes])
			count = i + 1
		case i < keepBits && keep>>i&1 == 1:
			out[i] = p
			count = i + 1
		}
	}
	return out[:count]
}
