package scheme_test

import (
	"math"
	"reflect"
	"slices"
	"testing"

	"paideia/api"
	"paideia/scheme"
	"paideia/types"
)

// nil and the empty list are the same, at each place.
func TestEmptyLists(t *testing.T) {
	a := api.Type{Kind: api.TVar, Name: "a", Args: []api.Type{}}
	unit := api.Type{Kind: api.TCon, Name: "T", Args: []api.Type{}}
	empty := api.Scheme{Vars: []string{}, Context: []api.Pred{}, Type: unit}
	for _, s := range []api.Scheme{empty, {Type: unit}, {Vars: []string{}, Type: tcon("T")}, {Context: []api.Pred{}, Type: tcon("T")}} {
		is(t, scheme.Canon(s), ". T")
		is(t, scheme.Close(s.Context, s.Type, s.Vars...), ". T")
		fresh, next := scheme.Fresh(s, 3)
		if is(t, fresh, ". T"); next != 3 {
			t.Error(next)
		}
		areNames(t, scheme.Free(s))
		if !scheme.Same(s, read(". T")) || !scheme.Same(read(". T"), s) || scheme.Same(s, read(". U")) {
			t.Error("Same")
		}
	}
	if l := scheme.SortPreds(nil); len(l) != 0 {
		t.Error(l)
	}
	if l := scheme.SortPreds([]api.Pred{}); len(l) != 0 {
		t.Error(l)
	}
	if l := scheme.SortPreds([]api.Pred{pred("Eq", a), pred("Eq", unit), pred("Eq", tvar("a")), pred("Eq", tcon("T"))}); sayPreds(l) != "Eq a, Eq T" {
		t.Error(sayPreds(l))
	}
	s := api.Scheme{Vars: []string{"a"}, Context: []api.Pred{pred("Eq", a), pred("Eq", tvar("a"))}, Type: tfun(a, unit)}
	is(t, scheme.Canon(s), "a . Eq a => a -> T")
	if !scheme.Same(s, read("b . Eq b => b -> T")) {
		t.Error("Same")
	}
}

// The zero value is a type of no kind, for nothing, with no context.
func TestZeroValues(t *testing.T) {
	var s api.Scheme
	fresh, next := scheme.Fresh(s, 9)
	for i, x := range []api.Scheme{scheme.Canon(s), scheme.Close(nil, api.Type{}), scheme.Close(nil, api.Type{}, "a"), fresh} {
		if len(x.Vars) != 0 || len(x.Context) != 0 || !types.Same(x.Type, api.Type{}) {
			t.Errorf("%d: %+v", i, x)
		}
	}
	if next != 9 || len(scheme.Free(s)) != 0 || !scheme.Same(s, s) || scheme.Same(s, read(". T")) || scheme.Same(read(". a"), s) {
		t.Error("a scheme of nothing")
	}
	l := scheme.SortPreds([]api.Pred{{Class: "Eq"}, {}, {Class: "Eq"}, pred("", tvar("a")), {}})
	if want := []api.Pred{{}, pred("", tvar("a")), {Class: "Eq"}}; !reflect.DeepEqual(l, want) {
		t.Errorf("%+v", l)
	}
}

// Names are names, whatever their bytes are.
func TestOddNames(t *testing.T) {
	typ := tcon("", tvar(""), tvar("A"), tvar("\xff"), tvar("a b"), tvar("?1"), tvar(""))
	s := api.Scheme{Vars: []string{"?1", "\xff", ""}, Context: []api.Pred{pred("", tvar("\x80"))}, Type: typ}
	areNames(t, scheme.Free(s), "A", "a b", "\x80")
	areNames(t, scheme.Close(s.Context, typ, "").Vars, "A", "\xff", "a b", "?1", "\x80")
	c := scheme.Canon(s)
	areNames(t, c.Vars, "a", "b", "c")
	if want := tcon("", tvar("a"), tvar("A"), tvar("b"), tvar("a b"), tvar("c"), tvar("a")); !types.Same(c.Type, want) {
		t.Errorf("%+v", c)
	}
	f, next := scheme.Fresh(s, 1) // ?1 is ?1, and no other one is ?1
	areNames(t, f.Vars, "?1", "?2", "?3")
	if want := tcon("", tvar("?3"), tvar("A"), tvar("?2"), tvar("a b"), tvar("?1"), tvar("?3")); !types.Same(f.Type, want) || next != 4 {
		t.Errorf("%+v, %d", f, next)
	}
}

// A constructor of a variable's name is none, and a class neither.
func TestConstructorNamedAsVariable(t *testing.T) {
	typ := tfun(tcon("a", tvar("b")), tcon("x"))
	s := api.Scheme{Vars: []string{"a", "b", "x"}, Context: []api.Pred{pred("b", tcon("b"))}, Type: typ}
	areNames(t, scheme.Free(s))
	areNames(t, scheme.Free(api.Scheme{Context: s.Context, Type: typ}), "b")
	areNames(t, scheme.Close(s.Context, typ).Vars, "b")
	is(t, scheme.Canon(s), "a . b b => a a -> x")
	f, _ := scheme.Fresh(s, 0)
	is(t, f, "?0 ?1 ?2 . b b => a ?1 -> x")
	c := scheme.Canon(api.Scheme{Vars: []string{"x"}, Type: tfun(tcon("a"), tvar("x"))})
	is(t, c, "a . a -> a") // the name that a constructor has is not Free's
	if scheme.Same(c, read("a . a -> a")) {
		t.Error("Same")
	}
}

// Numbers below 0 are told as others; what an int can't hold is told in a name as it is.
func TestFreshFromAnywhere(t *testing.T) {
	for _, x := range []struct {
		from  int
		names []string
		next  int
	}{
		{-3, []string{"?-3", "?-2"}, -1},
		{-2, []string{"?-2", "?-1"}, 0},
		{-1, []string{"?-1", "?0"}, 1},
		{math.MinInt64, []string{"?-9223372036854775808", "?-9223372036854775807"}, math.MinInt64 + 2},
		{math.MaxInt64 - 2, []string{"?9223372036854775805", "?9223372036854775806"}, math.MaxInt64},
	} {
		s, next := scheme.Fresh(read("a b . (Ord b, Eq a) => b -> a"), x.from)
		areNames(t, s.Vars, x.names...)
		is(t, s, x.names[0]+" "+x.names[1]+" . (Ord "+x.names[1]+", Eq "+x.names[0]+") => "+x.names[1]+" -> "+x.names[0])
		if next != x.next {
			t.Errorf("from %d: %d; want %d", x.from, next, x.next)
		}
		if s, next := scheme.Fresh(read(". a"), x.from); say(s) != ". a" || next != x.from {
			t.Errorf("%s, %d", say(s), next)
		}
	}
	s, _ := scheme.Fresh(read("a b c . T c b a"), math.MaxInt64-1)
	is(t, s, "?9223372036854775806 ?9223372036854775807 ?9223372036854775808 . T ?9223372036854775808 ?9223372036854775807 ?9223372036854775806")
}

// A function of other than two is a type like others.
func TestFunctionsThatLack(t *testing.T) {
	fun := func(args ...api.Type) api.Type { return api.Type{Kind: api.TFun, Args: args} }
	a, b, c := tvar("x"), tvar("y"), tvar("z")
	l := []api.Pred{pred("Eq", fun(a, b, c)), pred("Eq", fun(a, b)), pred("Eq", fun(b)), pred("Eq", fun(a)), pred("Eq", fun()), pred("Eq", fun(b))}
	s := scheme.Close(l, fun(c))
	areNames(t, s.Vars, "z", "x", "y")
	got := scheme.Canon(s)
	want := []api.Pred{pred("Eq", fun()), pred("Eq", fun(tvar("b"))), pred("Eq", fun(tvar("c"))), pred("Eq", fun(tvar("b"), tvar("c"))), pred("Eq", fun(tvar("b"), tvar("c"), tvar("a")))}
	areNames(t, got.Vars, "a", "b", "c")
	if !types.Same(got.Type, fun(tvar("a"))) || !slices.EqualFunc(got.Context, want, samePred) {
		t.Errorf("%+v", got)
	}
}

func samePred(a, b api.Pred) bool { return a.Class == b.Class && types.Same(a.Type, b.Type) }

// kinds are those of no type of the three kinds.
func kinds() []int { return []int{math.MinInt, -1, 0, api.TAll, 5, math.MaxInt} }

// What is of none of the three kinds is gone through for its parts' variables, and is none itself, whatever its name.
func TestOtherKinds(t *testing.T) {
	for _, kind := range kinds() {
		of := func(name string, args ...api.Type) api.Type { return api.Type{Kind: kind, Name: name, Args: args} }
		context := []api.Pred{pred("Eq", of("x", tvar("z"))), pred("Eq", of("x", tvar("y"))), pred("Eq", of("x", tvar("z"))), pred("Eq", of("w"))}
		s := scheme.Close(context, of("x", tvar("y"), tvar("q")), "q", "x")
		areNames(t, s.Vars, "y", "z")
		areNames(t, scheme.Free(s), "q")
		c := scheme.Canon(s)
		areNames(t, c.Vars, "a", "b")
		want := []api.Pred{pred("Eq", of("w")), pred("Eq", of("x", tvar("a"))), pred("Eq", of("x", tvar("b")))}
		if !types.Same(c.Type, of("x", tvar("a"), tvar("q"))) || !slices.EqualFunc(c.Context, want, samePred) {
			t.Errorf("%d: %+v", kind, c)
		}
		f, _ := scheme.Fresh(s, 0)
		if !types.Same(f.Type, of("x", tvar("?0"), tvar("q"))) || !samePred(f.Context[0], pred("Eq", of("x", tvar("?1")))) || len(f.Context) != 4 {
			t.Errorf("%d: %+v", kind, f)
		}
		if !scheme.Same(s, f) || !scheme.Same(c, s) || scheme.Same(s, scheme.Close(context, of("w", tvar("y"), tvar("q")), "q")) {
			t.Errorf("%d: Same", kind)
		}
	}
}

// No call panics, whatever is lacking or too much.
func TestNoneOfThemPanics(t *testing.T) {
	var l []api.Type
	for _, kind := range append(kinds(), 1, 2, 3) {
		for n := range 4 {
			args := []api.Type{tvar("b"), {}, {Kind: api.TVar, Name: "c", Args: []api.Type{tvar("d")}}}[:n]
			l = append(l, api.Type{Kind: kind, Args: make([]api.Type, n)}, api.Type{Kind: kind, Name: "b", Args: args})
		}
	}
	for _, x := range l {
		for _, y := range l {
			s := api.Scheme{Vars: []string{"", "b", "c", "b", "d"}, Context: []api.Pred{pred("Eq", y), {}, pred("Eq", x), pred("Eq", y)}, Type: x}
			f, next := scheme.Fresh(s, -2)
			if len(f.Vars) != 5 || next != 3 || len(f.Context) != 4 {
				t.Fatalf("%+v: %+v, %d", s, f, next)
			}
			sorted := scheme.SortPreds(s.Context)
			if !slices.IsSortedFunc(sorted, func(a, b api.Pred) int { return types.Compare(tcon(a.Class, a.Type), tcon(b.Class, b.Type)) }) {
				t.Fatalf("%+v: %+v", s.Context, sorted)
			}
			all := scheme.Close(s.Context, x).Vars
			for _, name := range scheme.Free(s) {
				if slices.Contains(s.Vars, name) || !slices.Contains(all, name) {
					t.Fatalf("%+v: %s", s, name)
				}
			}
			if !scheme.Same(s, s) || len(scheme.Canon(s).Vars) > len(s.Vars) {
				t.Fatalf("%+v: %+v", s, scheme.Canon(s))
			}
		}
	}
}
