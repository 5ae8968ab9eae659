// Package codes writes values as bytes, and reads them again, by the encoding of numbers and lists of layer 9: see shared/doc/09-posts.md. Layer 10 uses the same.
package codes

// Code says what values of a type consist of: it hands each number of a value to a scribe, in the order of the encoding. So the same code serves to write and to read.
type Code[T any] func(s Scribe, x *T)

// Scribe goes through the numbers of a value: one that writes writes them down, one that reads sets them. (One that reads begins with empty lists.)
type Scribe interface {
	Number(x *int)
	// Bytes does the same with the length of bytes, and with the bytes.
	Bytes(l *[]byte)
}

// Write returns the encoding of a value. It has none if one of its numbers is not from -2^62 to 2^62 - 1.
func (c Code[T]) Write(x T) (l []byte, right bool) {
	w := &writer{}
	if !finishes(func() { c(w, &x) }) {
		return nil, false
	}
	return w.made, true
}

// Read returns the value of which bytes are the encoding, if there is one.
func (c Code[T]) Read(l []byte) (x T, right bool) {
	r := &reader{rest: l}
	if !finishes(func() { c(r, &x) }) || len(r.rest) > 0 {
		var none T
		return none, false
	}
	return x, true
}

// Numbers hands numbers to a scribe.
func Numbers(s Scribe, l ...*int) {
	for _, x := range l {
		s.Number(x)
	}
}

// Elements hands the length of a list, and each element, to a scribe.
func Elements[T any](s Scribe, l *[]T, each Code[T]) {
	n := len(*l)
	s.Number(&n)
	if n < 0 {
		panic(noCode)
	}
	for i := range n {
		if i == len(*l) {
			var none T
			*l = append(*l, none)
		}
		each(s, &(*l)[i])
	}
}

// List hands a list of numbers to a scribe.
func List(s Scribe, l *[]int) { Elements(s, l, Scribe.Number) }

// finishes reports whether something comes to its end, and is not left by a panic.
func finishes(do func()) (right bool) {
	defer func() {
		if recover() != nil {
			right = false
		}
	}()
	do()
	return true
}
