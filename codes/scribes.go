package codes

const (
	bits     = 7 // of a number in each byte
	more     = 1 << bits
	mostSize = 9 // bytes of a number
	least    = -1 << 62
	greatest = 1<<62 - 1
)

// noCode is why a scribe is left by a panic: it cannot go on.
const noCode = "there is no encoding"

// writer makes bytes.
type writer struct{ made []byte }

func (w *writer) Number(x *int) {
	if *x < least || *x > greatest {
		panic(noCode)
	}
	u := uint64(*x) << 1
	if *x < 0 {
		u = ^u
	}
	for ; u >= more; u >>= bits {
		w.made = append(w.made, byte(u)|more)
	}
	w.made = append(w.made, byte(u))
}

func (w *writer) Bytes(l *[]byte) {
	n := len(*l)
	w.Number(&n)
	w.made = append(w.made, *l...)
}

// reader takes bytes apart.
type reader struct{ rest []byte }

func (r *reader) take(n int) []byte {
	if n < 0 || n > len(r.rest) {
		panic(noCode)
	}
	l := r.rest[:n]
	r.rest = r.rest[n:]
	return l
}

func (r *reader) Number(x *int) {
	u := uint64(0)
	for i := range mostSize {
		b := r.take(1)[0]
		u |= uint64(b&(more-1)) << (bits * i)
		if b >= more {
			continue
		}
		if b == 0 && i > 0 {
			break // more bytes than are needed
		}
		*x = int(u >> 1)
		if u&1 == 1 {
			*x = ^*x
		}
		return
	}
	panic(noCode)
}

func (r *reader) Bytes(l *[]byte) {
	n := 0
	r.Number(&n)
	*l = append([]byte(nil), r.take(n)...)
}
