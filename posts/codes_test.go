package posts

import (
	"bytes"
	"testing"

	"noctuary/api"
)

// P9.1 (Words): all numbers that there are codes of, also those that no note has.
func TestCodesOfNumbers(t *testing.T) {
	for n, want := range map[int][]byte{
		0: {0}, -1: {1}, 1: {2}, 5: {10}, 63: {126}, -64: {127}, 64: {128, 1}, -65: {129, 1}, 8191: {254, 127}, -8192: {255, 127}, 8192: {128, 128, 1},
		1<<62 - 1: {254, 255, 255, 255, 255, 255, 255, 255, 127}, -1 << 62: {255, 255, 255, 255, 255, 255, 255, 255, 127}, 1 << 55: {128, 128, 128, 128, 128, 128, 128, 128, 1},
	} {
		w := &writer{}
		w.number(&n)
		if !bytes.Equal(w.made, want) {
			t.Errorf("%d is written as %v, not %v", n, w.made, want)
		}
		got := 99
		if e := read(want, func(r *reader) { r.number(&got) }); e != api.OK || got != n {
			t.Errorf("%v is read as %d, error %d, not %d", want, got, e, n)
		}
	}
}

// P9.1 (Words): bytes that are no number.
func TestCodesOfNoNumbers(t *testing.T) {
	for _, l := range [][]byte{
		nil, {128}, {255, 255}, {128, 0}, {129, 0}, {255, 128, 0}, {0, 0}, {2, 128}, {128, 1, 0},
		{254, 255, 255, 255, 255, 255, 255, 255, 128}, {254, 255, 255, 255, 255, 255, 255, 255, 255, 0}, {254, 255, 255, 255, 255, 255, 255, 255, 255, 1}, {128, 128, 128, 128, 128, 128, 128, 128, 128, 2},
	} {
		got := 0
		if e := read(l, func(r *reader) { r.number(&got) }); e != api.ErrCode {
			t.Errorf("%v is read as %d, error %d", l, got, e)
		}
	}
}
