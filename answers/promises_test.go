package answers_test

import (
	"math/rand/v2"
	"reflect"
	"slices"
	"testing"

	"noctuary/answers"
	"noctuary/api"
	"noctuary/flows"
	"noctuary/places"
)

// P7.2, P7.4, P7.5: all shares, whoever found them, keep to the answers.
func TestEveryReading(t *testing.T) {
	eachPossible(t, func(r *rand.Rand, c api.Case) {
		n, _ := answers.NetOf(c)
		region, nights := someRegion(r), someNights(r)
		told := map[int]told{}
		for _, name := range now(c) {
			told[name] = toldOf(c, name, region, nights)
		}
		step := 1 + r.IntN(40)
		i := 0
		for given := range consistentOf(c).readings() {
			if i++; i%step != 0 {
				continue
			}
			f := sharesOf(r, c, given)
			if e := flows.Keeps(n, f); e != api.OK {
				t.Fatalf("Keeps of shares that give %v: error %d", given, e)
			}
			for at, name := range now(c) {
				wantKept(t, c, given, name, told[name], insideOf(region, nights))
				if k := f[len(f)-len(now(c))+at]; k != tellOf(c, given, name, nowhere).count.Lo {
					t.Errorf("the number of %d is %d, with %v", name, k, given)
				}
			}
			wantWithin(t, c, f)
		}
	})
}

func nowhere(api.Catch) bool { return false }

// toldOf returns the answers about a name.
func toldOf(c api.Case, name int, region []api.Square, nights api.Span) told {
	var x told
	x.count, _ = answers.Count(c, name)
	x.where, _ = answers.Where(c, name, region, nights)
	x.first, _ = answers.First(c, name)
	x.last, _ = answers.LastOf(c, name)
	x.sure, _ = answers.Sure(c, name)
	x.may, _ = answers.May(c, name)
	return x
}

// wantKept checks that a reading keeps to the answers about a name.
func wantKept(t *testing.T, c api.Case, given reading, name int, x told, isIn func(api.Catch) bool) {
	t.Helper()
	y := tellOf(c, given, name, isIn)
	in := func(n int, s api.Span) bool { return s.Lo <= n && n <= s.Hi }
	if !in(y.count.Lo, x.count) || !in(y.where.Lo, x.where) {
		t.Errorf("%v gives to %d %d moths, and %d in a place; told are %v, %v", given, name, y.count.Lo, y.where.Lo, x.count, x.where)
	}
	if y.count.Lo > 0 {
		first, last := y.first.Lo, y.last.Lo
		if x.first.Lo < 0 || first < x.first.Lo || x.first.Hi >= 0 && first > x.first.Hi || last > x.last.Hi || x.last.Lo >= 0 && last < x.last.Lo {
			t.Errorf("%v gives to %d moths from %d to %d; told are %v, %v", given, name, first, last, x.first, x.last)
		}
	}
	for _, s := range y.may {
		if has, _ := places.Has(x.may, s); !has {
			t.Errorf("%v gives to %d moths in %v; told are %v", given, name, s, x.may)
		}
	}
	for _, of := range c.Catches {
		if is, _ := places.Has(x.sure, of.Square); is && !slices.Contains(y.may, of.Square) {
			t.Errorf("%v gives to %d no moths in %v; sure are %v", given, name, of.Square, x.sure)
		}
	}
}

// wantWithin checks that what shares give to the candidates of a record together is in what it may be counted for.
func wantWithin(t *testing.T, c api.Case, f []int) {
	t.Helper()
	for i := range c.Records {
		sum := 0
		l, _ := answers.Candidates(c, i)
		for _, name := range l {
			k, e := answers.Given(c, f, i, name)
			if e != api.OK || k < 0 {
				t.Errorf("Given: %d, error %d", k, e)
			}
			sum += k
		}
		if s, _ := answers.Taken(c, i); sum < s.Lo || sum > s.Hi {
			t.Errorf("%d moths are given of the record %d, of %v", sum, i, s)
		}
	}
}

// P7.4, P7.5: what the answers say of one another.
func TestAnswersTogether(t *testing.T) {
	eachPossible(t, func(_ *rand.Rand, c api.Case) {
		for _, name := range now(c) {
			x := toldOf(c, name, whole(), always())
			if x.where != x.count {
				t.Errorf("Where of all: %v; Count: %v", x.where, x.count)
			}
			unsure, none := x.count.Lo == 0, x.count.Hi == 0
			if (x.first.Hi == -1) != unsure || (x.last.Lo == -1) != unsure || (x.first.Lo == -1) != none || (x.last.Hi == -1) != none {
				t.Errorf("Count: %v, First: %v, LastOf: %v", x.count, x.first, x.last)
			}
			both, _ := places.Intersect(x.sure, x.may)
			if !places.ValidRegion(x.sure) || !places.ValidRegion(x.may) || !slices.Equal(both, x.sure) || none != (len(x.may) == 0) {
				t.Errorf("Sure: %v, May: %v", x.sure, x.may)
			}
		}
	})
}

// P7.3: heights that prove the number of a name prove it of Count, and there are such heights for both ends.
func TestProofs(t *testing.T) {
	eachPossible(t, func(r *rand.Rand, c api.Case) {
		n, _ := answers.NetOf(c)
		for i, name := range now(c) {
			count, e := answers.Count(c, name)
			if e != api.OK {
				t.Errorf("Count: error %d", e)
			}
			proved(t, r, n, len(n.Arcs)-len(now(c))+i, count)
		}
	})
}

// narrower returns a case with a record that is judged more narrowly.
func narrower(r *rand.Rand, c api.Case) api.Case {
	c.Records = slices.Clone(c.Records)
	x := &c.Records[r.IntN(len(c.Records))]
	switch r.IntN(4) {
	case 0:
		if x.State == api.StateQueried {
			x.State = api.StateAccepted
		}
	case 1:
		x.Count.Lo += r.IntN(x.Count.Hi - x.Count.Lo + 1)
		x.Count.Hi -= r.IntN(x.Count.Hi - x.Count.Lo + 1)
	case 2:
		x.Seen = append(slices.Clone(x.Seen), []int{1 + r.IntN(3)})
	case 3:
		if len(x.Names) > 1 {
			x.Names = slices.Delete(slices.Clone(x.Names), 0, 1)
		}
	}
	return c
}

func pair(i int, e api.Errno) [2]int { return [2]int{i, int(e)} }

// sameSeries reports whether the records of a case belong to the series to which those of another one with more candidates did.
func sameSeries(c, wider api.Case) bool {
	for i := range c.Records {
		l, _ := answers.Candidates(c, i)
		for _, name := range l {
			if !same(pair(answers.SeriesOf(c, i, name)), pair(answers.SeriesOf(wider, i, name))) {
				return false
			}
		}
	}
	return true
}

// P7.7.
func TestMoreIsKnown(t *testing.T) {
	changes := 0
	eachPossible(t, func(r *rand.Rand, c api.Case) {
		if len(c.Records) == 0 {
			return
		}
		x := narrower(r, c)
		if is, e := answers.Possible(x); !is || e != api.OK || !sameSeries(x, c) {
			return
		}
		for _, name := range now(c) {
			old, _ := answers.Count(c, name)
			count, e := answers.Count(x, name)
			if e != api.OK || count.Lo < old.Lo || count.Hi > old.Hi {
				t.Errorf("Count: %v, error %d; it was %v; the case became %+v", count, e, old, x)
			}
			if count != old {
				changes++
			}
		}
	})
	if changes < 50 {
		t.Errorf("only %d counts became narrower", changes)
	}
}

// P7.8: regions that cover nothing in common.
func TestSums(t *testing.T) {
	eachPossible(t, func(r *rand.Rand, c api.Case) {
		a, nights := someRegion(r), someNights(r)
		b, _ := places.Minus(someRegion(r), a)
		both, _ := places.Union(a, b)
		for _, name := range now(c) {
			x, _ := answers.Where(c, name, a, nights)
			y, _ := answers.Where(c, name, b, nights)
			s, e := answers.Where(c, name, both, nights)
			if e != api.OK || s.Lo < x.Lo+y.Lo || s.Hi > x.Hi+y.Hi {
				t.Errorf("Where: %v, error %d; of both regions: %v, %v", s, e, x, y)
			}
		}
		x, _ := answers.Effort(c, a, nights)
		y, _ := answers.Effort(c, b, nights)
		n, e := answers.Effort(c, both, nights)
		wantSame(t, "Effort", n, e, x+y)
	})
}

// stretch is the memory from one address to ahead of another one.
type stretch struct{ from, to uintptr }

// stretches returns the memory of all slices in a value, as far as they could be appended to.
func stretches(x reflect.Value) []stretch {
	var out []stretch
	switch x.Kind() {
	case reflect.Struct:
		for i := range x.NumField() {
			out = append(out, stretches(x.Field(i))...)
		}
	case reflect.Slice:
		if x.Cap() > 0 {
			out = append(out, stretch{x.Pointer(), x.Pointer() + uintptr(x.Cap())*x.Type().Elem().Size()})
		}
		for i := range x.Len() {
			out = append(out, stretches(x.Index(i))...)
		}
	}
	return out
}

// R7: results are new memory, and share none with arguments nor among themselves; arguments are not changed.
func TestMemory(t *testing.T) {
	type arguments struct {
		Case, Tight api.Case
		Region      []api.Square
		Shares      []int
	}
	a := arguments{Case: rich(), Tight: tight(), Region: []api.Square{{}, {Level: 1, X: 4}, {Level: 2, Y: 1}}}
	a.Case.Series[0].Count.Lo, a.Case.Series[1].Count.Lo = 0, 0
	a.Shares, _ = answers.Shares(a.Case, 1, true)
	calls := map[string]func() (any, api.Errno){
		"Candidates": func() (any, api.Errno) { x, e := answers.Candidates(a.Case, 1); return x, e },
		"of Said":    func() (any, api.Errno) { x, e := answers.Candidates(a.Case, 0); return x, e },
		"Candid":     func() (any, api.Errno) { x, e := answers.Candid(a.Case); return x, e },
		"NetOf":      func() (any, api.Errno) { x, e := answers.NetOf(a.Case); return x, e },
		"Shares":     func() (any, api.Errno) { x, e := answers.Shares(a.Case, 1, false); return x, e },
		"Sure":       func() (any, api.Errno) { x, e := answers.Sure(a.Case, 1); return x, e },
		"May":        func() (any, api.Errno) { x, e := answers.May(a.Case, 1); return x, e },
		"Clash":      func() (any, api.Errno) { x, e := answers.Clash(a.Tight); return x, e },
		"Check":      func() (any, api.Errno) { return nil, answers.Check(a.Case) },
		"Possible":   func() (any, api.Errno) { _, e := answers.Possible(a.Case); return nil, e },
		"Given":      func() (any, api.Errno) { _, e := answers.Given(a.Case, a.Shares, 0, 1); return nil, e },
		"First":      func() (any, api.Errno) { _, e := answers.First(a.Case, 1); return nil, e },
		"LastOf":     func() (any, api.Errno) { _, e := answers.LastOf(a.Case, 1); return nil, e },
		"Effort":     func() (any, api.Errno) { _, e := answers.Effort(a.Case, a.Region, always()); return nil, e },
		"Index":      func() (any, api.Errno) { _, e := index(a.Case, 1, a.Region, always()); return nil, e },
		"Change": func() (any, api.Errno) {
			_, e := answers.Change(a.Case, 1, a.Region, always(), always())
			return nil, e
		},
	}
	before := text(a)
	for what, call := range calls {
		x, e := call()
		if e != api.OK {
			t.Errorf("%s: error %d", what, e)
		}
		if text(a) != before {
			t.Fatalf("%s changes its arguments", what)
		}
		if x == nil {
			continue
		}
		result := stretches(reflect.ValueOf(x))
		all := append(result, stretches(reflect.ValueOf(a))...)
		for i, one := range result {
			for _, other := range all[i+1:] {
				if one.from < other.to && other.from < one.to {
					t.Errorf("%s shares memory", what)
				}
			}
		}
	}
}
