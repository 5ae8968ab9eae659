package posts

import (
	"iter"
	"slices"

	"noctuary/api"
)

const (
	pageSize   = 32
	headSize   = 2 // of a page: its number, and how many bytes of content it has
	roomSize   = 28
	checkAt    = headSize + roomSize
	checkPrime = 65521
	lengthSize = 2 // of a record: the number of its bytes
)

// page is a page with its check.
type page [pageSize]byte

// pageOf returns the page of a number with a content.
func pageOf(number int, content []byte) page {
	p := page{byte(number), byte(len(content))}
	copy(p[headSize:], content)
	check := 0
	for i, x := range p[:checkAt] {
		check += (i + 1) * int(x)
	}
	check = check%checkPrime + 1
	p[checkAt], p[checkAt+1] = byte(check), byte(check>>8)
	return p
}

// pagesOf returns the pages of a record that begin with a number.
func pagesOf(number int, record []byte) []page {
	content := append([]byte{byte(len(record)), byte(len(record) >> 8)}, record...)
	var out []page
	for part := range slices.Chunk(content, roomSize) {
		out = append(out, pageOf(number+len(out), part))
	}
	return out
}

// countOf returns how many pages a record of a length takes.
func countOf(length int) int { return (lengthSize + length + roomSize - 1) / roomSize }

// told yields the records that a list of pages tells, each with the number of its pages.
func told(pages []page) iter.Seq2[[]byte, int] {
	return func(yield func([]byte, int) bool) {
		at := 0
		for at < len(pages) {
			record, right := recordAt(pages, at)
			if !right {
				return
			}
			count := countOf(len(record))
			if !yield(record, count) {
				return
			}
			at += count
		}
	}
}

// recordAt returns the record whose pages begin at an index, if there is one. Its first page says how long it is; if that is wrong, the pages are not those of what is read.
func recordAt(pages []page, at int) (record []byte, right bool) {
	head := pages[at][headSize:]
	length := int(head[0]) + int(head[1])<<8
	if length > api.MaxBody || countOf(length) > len(pages)-at {
		return nil, false
	}
	own := pages[at : at+countOf(length)]
	var content []byte
	for _, p := range own {
		content = append(content, p[headSize:checkAt]...)
	}
	record = content[lengthSize : lengthSize+length]
	if !slices.Equal(own, pagesOf(at, record)) {
		return nil, false
	}
	return record, true
}

// wholePages returns the pages of a list ahead of the first one that is none because of its length.
func wholePages(l [][]byte) []page {
	var out []page
	for _, p := range l {
		if len(p) != pageSize {
			break
		}
		out = append(out, page(p))
	}
	return out
}
