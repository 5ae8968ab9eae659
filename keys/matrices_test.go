package keys_test

import (
	"math/rand/v2"
	"slices"
	"testing"

	"noctuary/api"
	"noctuary/keys"
)

// P3.1 (K1).
func TestCheckMatrix(t *testing.T) {
	all := api.Matrix{States: []int{api.MaxStates}}
	for i := range api.MaxRows {
		all.Rows = append(all.Rows, row(api.MaxID-api.MaxRows+1+i, 1<<api.MaxStates-1))
	}
	good := map[string]api.Matrix{
		"the sample":              sample(),
		"one character, no row":   {States: []int{2}},
		"as many states":          {States: []int{api.MaxStates}, Rows: []api.Row{row(1, 1<<api.MaxStates-1)}},
		"as many characters":      {States: times(api.MaxChars, 3)},
		"as many rows":            all,
		"as much of all":          greatestMatrix(),
		"the least sets":          {States: []int{2, 3}, Rows: []api.Row{row(1, 1, 1)}},
		"the greatest sets":       {States: []int{2, 3}, Rows: []api.Row{row(1, 3, 7)}},
		"the first Name and last": {States: []int{2}, Rows: []api.Row{row(1, 1), row(api.MaxID, 1)}},
		"rows that are equal":     {States: []int{2}, Rows: []api.Row{row(4, 2), row(5, 2)}},
	}
	for what, m := range good {
		if e := keys.CheckMatrix(m); e != api.OK {
			t.Errorf("%s: error %d", what, e)
		}
	}
	for what, m := range badMatrices() {
		if e := keys.CheckMatrix(m); e != api.ErrMatrix {
			t.Errorf("%s: error %d", what, e)
		}
	}
}

// P3.1: ErrMatrix comes before all other errors.
func TestErrMatrix(t *testing.T) {
	for what, m := range badMatrices() {
		for _, x := range []asked{goodArguments(), badArguments()} {
			x.m = m
			for name, of := range functions() {
				wantError(t, name+" of "+what, of(x), api.ErrMatrix)
			}
		}
	}
}

// P3.1: then ErrSeen, before ErrArg and ErrNone; in Follow and Trace, behind ErrKey.
func TestErrSeen(t *testing.T) {
	for what, seen := range badSeens() {
		for _, x := range []asked{goodArguments(), badArguments()} {
			x.seen = seen
			wantErrors(t, what, x, api.ErrSeen, "Fits", "Remain", "Both", "Worst", "Best")
		}
		x := goodArguments()
		x.b = seen
		wantErrors(t, what, x, api.ErrSeen, "Both")
		x.seen = seen
		wantErrors(t, what, x, api.ErrSeen, "Follow")
		x.k = api.Key{}
		wantErrors(t, what, x, api.ErrKey, "Follow")
	}
	for what, specimen := range badSpecimens() {
		x := goodArguments()
		x.specimen = specimen
		wantErrors(t, what, x, api.ErrSeen, "Trace")
		x.k = api.Key{}
		wantErrors(t, what, x, api.ErrKey, "Trace")
		x.k = api.Key{Leaves: [][]int{{10}}}
		wantErrors(t, what+", to a leaf", x, api.ErrSeen, "Trace")
	}
}

// P3.1: then ErrArg.
func TestErrArg(t *testing.T) {
	for _, name := range []int{0, -1, 1, 11, 40, 65546, huge, -huge - 1} {
		x := goodArguments()
		x.name = name
		wantErrors(t, "no name", x, api.ErrArg, "Row", "Fits", "Same", "Tell")
		x.name, x.other = 10, name
		wantErrors(t, "no second name", x, api.ErrArg, "Same", "Tell")
		x.name = name
		wantErrors(t, "no names", x, api.ErrArg, "Same", "Tell")
		x.m.Rows = nil
		wantErrors(t, "no rows", x, api.ErrArg, "Row", "Fits", "Same", "Tell")
	}
	for _, char := range []int{-1, 2, 64, huge, -huge - 1} {
		x := goodArguments()
		x.char = char
		wantErrors(t, "no character", x, api.ErrArg, "Worst")
	}
}

// P3.1 (K2): false, too, if the matrix is not valid.
func TestValidSeen(t *testing.T) {
	m := sample()
	for a := range 12 {
		for b := range 12 {
			want := 1 <= a && a <= 3 && 1 <= b && b <= 7
			if keys.ValidSeen(m, []int{a, b}) != want {
				t.Errorf("ValidSeen(%d, %d) is not %v", a, b, want)
			}
		}
	}
	for what, seen := range badSeens() {
		if keys.ValidSeen(m, seen) {
			t.Errorf("%s is valid", what)
		}
	}
	for what, m := range badMatrices() {
		for _, seen := range [][]int{{3, 7}, {1, 1}, {1}, nil, times(api.MaxChars+1, 1)} {
			if keys.ValidSeen(m, seen) {
				t.Errorf("%v is valid for %s", seen, what)
			}
		}
	}
	great := greatestMatrix()
	if !keys.ValidSeen(great, openSets(great)) || keys.ValidSeen(great, times(api.MaxChars, 1<<api.MaxStates)) {
		t.Error("of the greatest matrix")
	}
}

// P3.1 (K3 to K9): the chapter's examples.
func TestNames(t *testing.T) {
	m := sample()
	l, e := keys.Open(m)
	wantList(t, "Open", l, e, []int{3, 7})
	l, e = keys.Remain(m, []int{1, 7})
	wantList(t, "Remain", l, e, []int{10, 30})
	is, e := keys.Fits(m, 10, []int{3, 4})
	wantTruth(t, "Fits", is, e, false)
	l, e = keys.Both(m, []int{3, 3}, []int{1, 6})
	wantList(t, "Both", l, e, []int{1, 2})
	l, e = keys.Same(m, 10, 30)
	wantList(t, "Same", l, e, []int{0, 1})
	l, e = keys.Tell(m, 10, 30)
	wantList(t, "Tell(10, 30)", l, e, nil)
	l, e = keys.Tell(m, 10, 20)
	wantList(t, "Tell(10, 20)", l, e, []int{0})
	l, e = keys.Tell(m, 30, 20)
	wantList(t, "Tell(30, 20)", l, e, []int{0, 1})
}

// P3.1 (K3, K4), P3.2: of Open all names remain.
func TestOpenAndRow(t *testing.T) {
	eachMatrix(t, func(_ *rand.Rand, m api.Matrix) {
		seen, e := keys.Open(m)
		wantList(t, "Open", seen, e, openSets(m))
		var all []int
		for _, want := range m.Rows {
			all = append(all, want.Name)
			got, e := keys.Row(m, want.Name)
			if e != api.OK || !sameRow(got, want) {
				t.Errorf("Row: %v, error %d; want %v", got, e, want)
			}
		}
		l, e := keys.Remain(m, seen)
		wantList(t, "Remain", l, e, all)
	})
	great := greatestMatrix()
	seen, e := keys.Open(great)
	wantList(t, "Open of the greatest", seen, e, times(api.MaxChars, 65535))
	for _, i := range []int{0, 200, 399} {
		got, e := keys.Row(great, great.Rows[i].Name)
		if e != api.OK || !sameRow(got, great.Rows[i]) {
			t.Errorf("Row %d of the greatest: %v, error %d", i, got, e)
		}
	}
}

// P3.1 (K5, K6), P3.2: a name fits if and only if it remains, which is if some specimen agrees with both.
func TestFitting(t *testing.T) {
	eachMatrix(t, func(r *rand.Rand, m api.Matrix) {
		for range 5 {
			seen := someSets(r, m)
			want := remain(m, seen)
			l, e := keys.Remain(m, seen)
			wantList(t, "Remain", l, e, want)
			for _, x := range m.Rows {
				is, e := keys.Fits(m, x.Name, seen)
				wantTruth(t, "Fits", is, e, slices.Contains(want, x.Name))
			}
		}
	})
}

// P3.2: a name with a specimen of its row as what was seen remains.
func TestSpecimensRemain(t *testing.T) {
	eachMatrix(t, func(_ *rand.Rand, m api.Matrix) {
		for _, x := range m.Rows {
			for _, s := range agreeing(m, x.May) {
				var seen []int
				for _, state := range s {
					seen = append(seen, 1<<state)
				}
				l, e := keys.Remain(m, seen)
				if e != api.OK || !slices.Contains(l, x.Name) {
					t.Errorf("Remain(%v): %v, error %d; want %d, too", seen, l, e, x.Name)
				}
			}
		}
	})
}

// P3.1 (K7), P3.2: what is seen besides leaves no name that did not remain.
func TestBoth(t *testing.T) {
	none := 0
	eachMatrix(t, func(r *rand.Rand, m api.Matrix) {
		a, b := someSets(r, m), someSets(r, m)
		got, e := keys.Both(m, a, b)
		both := agreeing(m, a, b)
		if len(both) == 0 {
			none++
			wantError(t, "Both", list(got, e), api.ErrNone)
			return
		}
		want := times(len(a), 0)
		for _, s := range both {
			for c, state := range s {
				want[c] |= 1 << state
			}
		}
		wantList(t, "Both", got, e, want)
		before, _ := keys.Remain(m, a)
		after, e := keys.Remain(m, got)
		for _, name := range after {
			if !slices.Contains(before, name) {
				t.Errorf("%v left %v, and %v leaves %v, error %d", a, before, got, after, e)
			}
		}
	})
	if none < 30 || none > 270 {
		t.Errorf("Both was ErrNone %d times", none)
	}
	m := sample()
	for _, b := range [][]int{{2, 7}, {3, 4}, {2, 4}} {
		l, e := keys.Both(m, []int{1, 3}, b)
		wantError(t, "Both of what cannot be", list(l, e), api.ErrNone)
	}
}

// P3.1 (K8, K9), P3.3: the first specimen that agrees with both rows, or what tells them apart.
func TestTellingApart(t *testing.T) {
	apart, together := 0, 0
	eachMatrix(t, func(_ *rand.Rand, m api.Matrix) {
		for _, a := range m.Rows {
			for _, b := range m.Rows {
				var want []int
				for c := range m.States {
					if a.May[c]&b.May[c] == 0 {
						want = append(want, c)
					}
				}
				l, e := keys.Tell(m, a.Name, b.Name)
				wantList(t, "Tell", l, e, want)
				s, e := keys.Same(m, a.Name, b.Name)
				both := agreeing(m, a.May, b.May)
				if len(both) == 0 {
					apart++
					wantError(t, "Same", list(s, e), api.ErrNone)
					continue
				}
				together++
				wantList(t, "Same", s, e, both[0])
			}
		}
	})
	if apart < 100 || together < 100 {
		t.Errorf("%d pairs were apart, and %d were not", apart, together)
	}
}

// P3.1 (K8, K9): of a name and itself.
func TestTellingApartFromItself(t *testing.T) {
	m := sample()
	l, e := keys.Tell(m, 30, 30)
	wantList(t, "Tell", l, e, nil)
	s, e := keys.Same(m, 30, 30)
	wantList(t, "Same", s, e, []int{0, 1})
	last := api.Matrix{States: times(api.MaxChars, api.MaxStates), Rows: []api.Row{row(api.MaxID, times(api.MaxChars, 1<<15)...)}}
	s, e = keys.Same(last, api.MaxID, api.MaxID)
	wantList(t, "Same with the last states", s, e, times(api.MaxChars, 15))
}

// P3.1 (K6, K8, K9): of a matrix of which there is no greater one.
func TestNamesOfTheGreatest(t *testing.T) {
	m := greatestMatrix()
	name := func(i int) int { return m.Rows[i].Name }
	l, e := keys.Remain(m, with(openSets(m), 63, 1))
	wantList(t, "Remain", l, e, upTo(name(0), name(63)))
	l, e = keys.Tell(m, name(63), name(399))
	wantList(t, "Tell", l, e, []int{63})
	s, e := keys.Same(m, name(64), name(399))
	wantList(t, "Same", s, e, times(api.MaxChars, 1))
}

// P3.1: arguments are not changed (R7), and the calls with them say the same each time.
func TestArgumentsStay(t *testing.T) {
	x := goodArguments()
	for range 2 {
		for name, of := range functions() {
			if got := of(x); got.e != api.OK && name != "Wrong" || got.e != api.ErrNone && name == "Wrong" {
				t.Errorf("%s: error %d", name, got.e)
			}
		}
		if !keys.ValidSeen(x.m, x.seen) {
			t.Error("ValidSeen is false")
		}
	}
	want := goodArguments()
	same := slices.Equal(x.seen, want.seen) && slices.Equal(x.b, want.b) && slices.Equal(x.specimen, want.specimen)
	if !sameMatrix(x.m, want.m) || !sameKey(x.k, want.k) || !same {
		t.Errorf("arguments were changed: %v", x)
	}
	eachKey(t, func(r *rand.Rand, m api.Matrix, k api.Key) {
		seen := someSets(r, m)
		oldM, oldK, oldSeen := copyOf(m), copyOfKey(k), slices.Clone(seen)
		x := asked{m: m, k: k, seen: seen, b: seen, specimen: times(len(seen), 0)}
		if len(m.Rows) > 0 {
			x.name, x.other = m.Rows[0].Name, m.Rows[len(m.Rows)-1].Name
		}
		for name, of := range functions() {
			of(x)
			if !sameMatrix(m, oldM) || !sameKey(k, oldK) || !slices.Equal(seen, oldSeen) {
				t.Fatalf("%s changed an argument", name)
			}
		}
	})
}

// P3.1: nothing panics (R1), and an error comes alone (R3), whatever number of the arguments is another one, or is missing.
func TestAnyArguments(t *testing.T) {
	numbers := []int{-huge - 1, -65537, -2, -1, 0, 1, 2, 3, 8, 63, 64, 65, 1001, 65536, huge}
	good, bad := 0, 0
	eachKey(t, func(r *rand.Rand, m api.Matrix, k api.Key) {
		x := asked{m: copyOf(m), k: copyOfKey(k), seen: someSets(r, m), b: someSets(r, m), specimen: times(len(m.States), 0), name: r.IntN(20), other: r.IntN(20), char: r.IntN(4)}
		lists := []*[]int{&x.seen, &x.b, &x.specimen, &x.m.States}
		for i := range x.m.Rows {
			lists = append(lists, &x.m.Rows[i].May)
		}
		for i := range x.k.Nodes {
			lists = append(lists, &x.k.Nodes[i].Next)
		}
		for i := range x.k.Leaves {
			lists = append(lists, &x.k.Leaves[i])
		}
		n := numbers[r.IntN(len(numbers))]
		l := lists[r.IntN(len(lists))]
		switch i := r.IntN(len(*l) + 1); {
		case i < len(*l):
			(*l)[i] = n
		case r.IntN(2) == 0:
			*l = append(*l, n)
		default:
			*l = (*l)[:r.IntN(i+1)]
		}
		for name, of := range functions() {
			got := of(x)
			if got.e != api.OK && !got.empty {
				t.Errorf("%s: error %d, and a result", name, got.e)
			}
			if got.e == api.OK {
				good++
			} else {
				bad++
			}
		}
		keys.ValidSeen(x.m, x.seen)
	})
	if good < 1000 || bad < 1000 {
		t.Errorf("%d calls had no error, and %d had one", good, bad)
	}
}

// P3.1: results are new memory (R7).
func TestMemoryOfNames(t *testing.T) {
	m, seen, other := sample(), []int{3, 7}, []int{3, 7}
	l, _ := keys.Open(m)
	spoil(l)
	x, _ := keys.Row(m, 10)
	spoil(x.May)
	l, _ = keys.Remain(m, seen)
	spoil(l)
	l, _ = keys.Both(m, seen, other)
	spoil(l)
	l, _ = keys.Same(m, 10, 10)
	spoil(l)
	l, _ = keys.Tell(m, 20, 30)
	spoil(l)
	if !sameMatrix(m, sample()) || !slices.Equal(seen, []int{3, 7}) || !slices.Equal(other, []int{3, 7}) {
		t.Errorf("arguments have memory of a result: %v, %v, %v", m, seen, other)
	}
	l, e := keys.Open(m)
	wantList(t, "Open", l, e, []int{3, 7})
}
