package dots_test

import (
	"slices"
	"testing"

	"noctuary/api"
	"noctuary/dots"
)

// roomy returns squares in memory in which something follows them.
func roomy(l ...api.Square) []api.Square {
	return append(slices.Clone(l), sq(7, 7, 7), sq(8, 1, 1), sq(9, 1, 1))[:len(l)]
}

// behind returns squares with what follows them in memory.
func behind(l []api.Square) []api.Square { return l[:len(l)+3] }

// P8.1: arguments are neither changed nor kept, and results are new memory.
func TestMemory(t *testing.T) {
	county := roomy(sq(0, 9, 9), sq(2, 0, 0))
	first := roomy(sq(1, 0, 0), sq(1, 1, 0))
	second := roomy(sq(0, 2, 0), sq(1, 0, 0))
	region := roomy(sq(1, 0, 1))
	f := roomy(sq(0, 3, 1), sq(0, 2, 0), sq(0, 0, 0), sq(0, 3, 1))
	l := []api.DotMap{dotMap(first, county), dotMap(second, region)}
	all := func() string {
		return text([][]api.Square{behind(county), behind(first), behind(second), behind(region), behind(f)}) + text(l)
	}
	before := all()
	a, _ := dots.Allowed(county, nil, name)
	b, _ := dots.Allowed(county, l, name)
	w, _ := dots.World(county, l, name)
	is, e := dots.Holds(county, l, name, f)
	want(t, "Holds", is, e, true)
	o, _ := dots.Outer(f)
	d, _ := dots.Blur(county, licence(1, 1), f)
	m, e := dots.Publish(county, licence(0, 1), l, f)
	both, _ := dots.Both(l[0], dotMap(first, county))
	p, _ := dots.Parts(county, l, name)
	if e != api.OK || len(p) != 2 {
		t.Fatalf("Publish: error %d; %d parts", e, len(p))
	}
	for _, x := range append([][]api.Square{a, b, w, o, d, m.Dots, m.Region, both.Dots, both.Region}, p...) {
		if len(x) == 0 {
			t.Error("a result is empty")
		}
		told := text(p) + text(m) + text(both)
		x = append(x, sq(3, 3, 3))
		if text(p)+text(m)+text(both) != told {
			t.Error("two results are of the same memory")
		}
		for i := range x {
			x[i] = sq(4, 4, 4)
		}
	}
	if after := all(); after != before {
		t.Errorf("the arguments became %s, from %s", after, before)
	}
}
