package atlas_test

import (
	"cmp"
	"reflect"
	"slices"
	"testing"

	"noctuary/api"
	"noctuary/atlas"
)

// walk goes to all slices to which a value leads.
func walk(v reflect.Value, visit func(l reflect.Value)) {
	switch v.Kind() {
	case reflect.Struct:
		for i := range v.NumField() {
			walk(v.Field(i), visit)
		}
	case reflect.Slice:
		for i := range v.Len() {
			walk(v.Index(i), visit)
		}
		visit(v)
	}
}

// spoil changes all numbers in the memory to which a value leads.
func spoil(x any) {
	walk(reflect.ValueOf(x), func(l reflect.Value) {
		for i := range l.Len() {
			spoilOne(l.Index(i))
		}
	})
}

func spoilOne(v reflect.Value) {
	switch v.Kind() {
	case reflect.Struct:
		for i := range v.NumField() {
			spoilOne(v.Field(i))
		}
	case reflect.Int:
		v.SetInt(v.Int() - 7)
	case reflect.Uint8:
		v.SetUint(v.Uint() ^ 85)
	}
}

// wantApart checks that no two slices of a value share memory.
func wantApart(t *testing.T, what string, x any) {
	t.Helper()
	type stretch struct{ from, to uintptr }
	var all []stretch
	walk(reflect.ValueOf(x), func(l reflect.Value) {
		if l.Len() > 0 {
			all = append(all, stretch{l.Pointer(), l.Pointer() + uintptr(l.Len())*l.Type().Elem().Size()})
		}
	})
	slices.SortFunc(all, func(a, b stretch) int { return cmp.Compare(a.from, b.from) })
	for i := range all {
		if i > 0 && all[i].from < all[i-1].to {
			t.Errorf("two slices of %s share memory", what)
			return
		}
	}
}

// wantOwn checks that a call neither changes nor keeps its arguments, and that what it returns is new memory.
func wantOwn[T any](t *testing.T, what string, args func() []any, call func(args []any) T) {
	t.Helper()
	a := args()
	x := call(a)
	right := text(x)
	wantSame(t, "the arguments of "+what, text(a), text(args()))
	wantApart(t, "what "+what+" returns", x)
	for _, arg := range a {
		spoil(arg)
	}
	wantSame(t, "what "+what+" returned, behind a change of its arguments", text(x), right)
	b := args()
	y := call(b)
	spoil(y)
	wantSame(t, "the arguments of "+what+", behind a change of its result", text(b), text(args()))
	wantSame(t, "another result of "+what, text(x), right)
}

// both is the two lists that Maps returns.
type both struct {
	Maps []api.DotMap
	Held []int
}

// R7: of all functions.
func TestMemory(t *testing.T) {
	old := func() []api.DotMap { return []api.DotMap{{Name: 3, Dots: []api.Square{square(2, 3)}}, {Name: 77}} }
	of := func(r func() api.Register) func() []any {
		return func() []any { return []any{sampleBase(), r(), old()} }
	}
	for what, args := range map[string]func() []any{"the sample": of(sampleRegister), "a clash": of(clashRegister)} {
		wantOwn(t, "Names of "+what, args, func(a []any) []int {
			l, _ := atlas.Names(a[0].(api.Base), a[1].(api.Register))
			return l
		})
		wantOwn(t, "AnswerOf of "+what, args, func(a []any) api.Answer {
			x, _ := atlas.AnswerOf(a[0].(api.Base), a[1].(api.Register), 3)
			return x
		})
		wantOwn(t, "Maps of "+what, args, func(a []any) both {
			l, held, _ := atlas.Maps(a[0].(api.Base), a[1].(api.Register), a[2].([]api.DotMap))
			return both{l, held}
		})
		wantOwn(t, "Build of "+what, args, func(a []any) api.Atlas {
			x, _ := atlas.Build(a[0].(api.Base), a[1].(api.Register), a[2].([]api.DotMap))
			return x
		})
		built := func() []any {
			a := args()
			return []any{mustBuild(t, a[0].(api.Base), a[1].(api.Register), old()), old()}
		}
		wantOwn(t, "Check of "+what, built, func(a []any) []api.Fault { return atlas.Check(a[0].(api.Atlas), a[1].([]api.DotMap)) })
		wantOwn(t, "Encode of "+what, built, func(a []any) []byte {
			l, _ := atlas.Encode(a[0].(api.Atlas))
			return l
		})
		encoded := func() []any {
			l, _ := atlas.Encode(built()[0].(api.Atlas))
			return []any{l}
		}
		wantOwn(t, "Decode of "+what, encoded, func(a []any) api.Atlas {
			x, _ := atlas.Decode(a[0].([]byte))
			return x
		})
	}
}

// R7: of the functions that read an atlas, or a command.
func TestMemoryOfReaders(t *testing.T) {
	args := func() []any { return []any{twice(), api.Atlas{Answers: []api.Answer{{Name: 8}}}} }
	wantOwn(t, "SureOf", args, func(a []any) []api.Square {
		l, _ := atlas.SureOf(a[0].(api.Atlas), 7)
		return l
	})
	wantOwn(t, "MapOf", args, func(a []any) api.DotMap {
		m, _ := atlas.MapOf(a[0].(api.Atlas), 7)
		return m
	})
	wantOwn(t, "Compare", args, func(a []any) []int {
		l, _ := atlas.Compare(a[0].(api.Atlas), a[1].(api.Atlas))
		return l
	})
	wantOwn(t, "Richness", args, func(a []any) api.Span {
		s, _ := atlas.Richness(a[0].(api.Atlas))
		return s
	})
	command := func() []any { return []any{api.Command{Word: "a", Args: []int{1, 2}}} }
	wantOwn(t, "Print", command, func(a []any) string {
		s, _ := atlas.Print(a[0].(api.Command))
		return s
	})
	wantOwn(t, "Hash", func() []any { return []any{[]byte{1, 2, 3}} }, func(a []any) int { return atlas.Hash(a[0].([]byte)) })
}
