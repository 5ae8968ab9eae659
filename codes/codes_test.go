package codes_test

import (
	"bytes"
	"slices"
	"testing"

	"noctuary/codes"
)

var number = codes.Code[int](codes.Scribe.Number)

// P9.1 (Words): all numbers that there are codes of.
func TestNumbers(t *testing.T) {
	for n, want := range map[int][]byte{
		0: {0}, -1: {1}, 1: {2}, 5: {10}, 63: {126}, -64: {127}, 64: {128, 1}, -65: {129, 1}, 8191: {254, 127}, -8192: {255, 127}, 8192: {128, 128, 1},
		1<<62 - 1: {254, 255, 255, 255, 255, 255, 255, 255, 127}, -1 << 62: {255, 255, 255, 255, 255, 255, 255, 255, 127}, 1 << 55: {128, 128, 128, 128, 128, 128, 128, 128, 1},
	} {
		l, right := number.Write(n)
		if !right || !bytes.Equal(l, want) {
			t.Errorf("%d is written as %v (%v), not %v", n, l, right, want)
		}
		got, right := number.Read(want)
		if !right || got != n {
			t.Errorf("%v is read as %d (%v), not %d", want, got, right, n)
		}
	}
}

// P9.1 (Words): numbers without a code, and bytes that are no number.
func TestNoNumbers(t *testing.T) {
	for _, n := range []int{1 << 62, -1<<62 - 1, 1<<63 - 1, -1 << 63} {
		if l, right := number.Write(n); right || len(l) > 0 {
			t.Errorf("%d is written as %v (%v)", n, l, right)
		}
	}
	for _, l := range [][]byte{
		nil, {128}, {255, 255}, {128, 0}, {129, 0}, {255, 128, 0}, {0, 0}, {2, 128}, {128, 1, 0},
		{254, 255, 255, 255, 255, 255, 255, 255, 128}, {254, 255, 255, 255, 255, 255, 255, 255, 255, 0}, {254, 255, 255, 255, 255, 255, 255, 255, 255, 1}, {128, 128, 128, 128, 128, 128, 128, 128, 128, 2},
	} {
		if got, right := number.Read(l); right || got != 0 {
			t.Errorf("%v is read as %d (%v)", l, got, right)
		}
	}
}

// parcel has one of everything that a scribe takes.
type parcel struct {
	a, b  int
	lists [][]int
	bytes []byte
}

func parcelCode(s codes.Scribe, x *parcel) {
	codes.Numbers(s, &x.a, &x.b)
	codes.Elements(s, &x.lists, codes.List)
	s.Bytes(&x.bytes)
}

func sameParcel(x, y parcel) bool {
	return x.a == y.a && x.b == y.b && slices.EqualFunc(x.lists, y.lists, slices.Equal) && bytes.Equal(x.bytes, y.bytes)
}

// P9.1 (Words): a list is its length, and its elements.
func TestLists(t *testing.T) {
	code := codes.Code[parcel](parcelCode)
	for _, c := range []struct {
		x    parcel
		want []byte
	}{
		{parcel{}, []byte{0, 0, 0, 0}},
		{parcel{a: 3, b: -64, lists: [][]int{{1, 2}, nil, {-1}}, bytes: []byte{0, 255}}, []byte{6, 127, 6, 4, 2, 4, 0, 2, 1, 4, 0, 255}},
	} {
		l, right := code.Write(c.x)
		if !right || !bytes.Equal(l, c.want) {
			t.Errorf("written as %v (%v), not %v", l, right, c.want)
		}
		y, right := code.Read(c.want)
		if !right || !sameParcel(c.x, y) {
			t.Errorf("read as %v (%v), not %v", y, right, c.x)
		}
		clear(c.want)
		if !sameParcel(c.x, y) {
			t.Errorf("what was read keeps the bytes: %v", y)
		}
	}
}

// P9.1 (Words): beginnings of bytes, further bytes, and lengths that are none or too great.
func TestNoLists(t *testing.T) {
	code := codes.Code[parcel](parcelCode)
	all, _ := code.Write(parcel{a: 3, b: -64, lists: [][]int{{1, 2}, nil, {-1}}, bytes: []byte{0, 255}})
	wrong := [][]byte{append(slices.Clone(all), 0), {0, 0, 1, 0}, {0, 0, 2, 1, 0}, {0, 0, 0, 1}, {0, 0, 0, 254, 255, 255, 255, 255, 255, 255, 255, 127, 0}, {0, 0, 254, 255, 255, 255, 255, 255, 255, 255, 127, 0}}
	for i := range all {
		wrong = append(wrong, all[:i])
	}
	for _, l := range wrong {
		if x, right := code.Read(l); right || !sameParcel(x, parcel{}) {
			t.Errorf("%v is read as %v (%v)", l, x, right)
		}
	}
	for _, x := range []parcel{{b: 1 << 62}, {lists: [][]int{{0}, {5, -1<<62 - 1}}}} {
		if l, right := code.Write(x); right || len(l) > 0 {
			t.Errorf("%v is written as %v (%v)", x, l, right)
		}
	}
}
