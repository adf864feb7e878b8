package unify_test

import (
	"math"
	"testing"

	"paideia/api"
	"paideia/types"
	"paideia/unify"
)

// one asks Unify of two types, and All of them.
func one(t *testing.T, a, b api.Type, want string) {
	t.Helper()
	s, err := answer(t, []pair{{a, b}})
	if got := say(s, err); got != want {
		t.Errorf("%+v, %+v: %s; want %s", a, b, got, want)
	}
}

// nil and the empty list are the same, at each place.
func TestEmptyLists(t *testing.T) {
	empty := []api.Type{}
	a := api.Type{Kind: api.TVar, Name: "a", Args: empty}
	unit := api.Type{Kind: api.TCon, Name: "T", Args: empty}
	one(t, a, tvar("a"), "")
	one(t, tvar("a"), a, "")
	one(t, unit, tcon("T"), "")
	one(t, tcon("T"), unit, "")
	one(t, a, unit, "a = T")
	one(t, unit, a, "a = T")
	one(t, a, tvar("b"), "a = b")
	one(t, tvar("b"), a, "b = a")
	one(t, unit, tcon("T", a), "ErrType")
	one(t, a, tcon("T", a), "ErrOccur")
	one(t, api.Type{Kind: api.TFun, Args: empty}, api.Type{Kind: api.TFun}, "")
	for _, l := range [][]pair{nil, {}} {
		if s, err := unify.All(l...); err != nil || s.Len() != 0 {
			t.Error(say(s, err))
		}
	}
}

// Names are names, whatever their bytes are; a variable's is no constructor's.
func TestOddNames(t *testing.T) {
	one(t, tvar(""), tvar(""), "")
	one(t, tcon(""), tcon(""), "")
	one(t, tcon(""), tcon("T"), "ErrType")
	one(t, tcon("a"), tcon("A"), "ErrType")
	one(t, tcon("T\x80"), tcon("T\xff"), "ErrType")
	one(t, tvar("a"), tcon("a"), "a = a")
	one(t, tcon("a"), tvar("a"), "a = a")
	one(t, tvar(""), tcon("T", tvar("")), "ErrOccur")
	s, err := unify.Unify(tvar(""), tcon("T", tvar("a")))
	if x, found := s.Get(""); !found || err != nil || !types.Same(x, tcon("T", tvar("a"))) {
		t.Error(say(s, err))
	}
}

// A function of other than two is one with as many alone.
func TestFunctionsThatLack(t *testing.T) {
	fun := func(args ...api.Type) api.Type { return api.Type{Kind: api.TFun, Args: args} }
	a, b, c, in := tvar("a"), tvar("b"), tvar("c"), tcon("T")
	l := []api.Type{fun(), fun(a), fun(a, b), fun(a, b, c)}
	for i, x := range l {
		for j, y := range l {
			want := "ErrType"
			if i == j {
				want = ""
			}
			one(t, x, y, want)
		}
	}
	one(t, fun(a), fun(in), "a = T")
	one(t, fun(a, in, b), fun(in, b, c), "a = T; b = T; c = T")
	one(t, fun(in, in, in), fun(in, in, tcon("U")), "ErrType")
	named := fun(a, in)
	named.Name = "f" // a function has no name: so none that counts
	one(t, named, fun(in, b), "a = T; b = T")
}

// What is of none of the three kinds is one with nothing but a variable.
func TestOtherKinds(t *testing.T) {
	for _, kind := range []int{math.MinInt, -1, 0, api.TAll, 5, math.MaxInt} {
		x := api.Type{Kind: kind, Name: "T", Args: []api.Type{tcon("U")}}
		for _, y := range []api.Type{x, {}, {Kind: kind}, tcon("T", tcon("U")), tcon("T"), tfun(tcon("U"), tcon("U"))} {
			one(t, x, y, "ErrType")
			one(t, y, x, "ErrType")
			one(t, tcon("P", tvar("a"), x), tcon("P", tcon("L", tvar("a")), y), "ErrOccur")
		}
		for _, y := range []pair{{tvar("a"), x}, {x, tvar("a")}} {
			s, err := answer(t, []pair{y})
			if got, found := s.Get("a"); !found || err != nil || !types.Same(got, x) {
				t.Errorf("%+v: %+v, %v", x, got, err)
			}
		}
		x.Args = []api.Type{tcon("U", tvar("a"))}
		one(t, tvar("a"), x, "ErrOccur")
		one(t, x, tvar("a"), "ErrOccur")
	}
}

// No call panics, whatever is lacking or too much.
func TestNoneOfThemPanics(t *testing.T) {
	var l []api.Type
	for _, kind := range []int{math.MinInt, -1, 0, 1, 2, 3, 4, 5, math.MaxInt} {
		for n := range 4 {
			args := []api.Type{tvar("b"), {}, tcon("T", tvar("c"))}[:n]
			l = append(l, api.Type{Kind: kind, Args: make([]api.Type, n)}, api.Type{Kind: kind, Name: "b", Args: args})
		}
	}
	for _, x := range l {
		for _, y := range l {
			for _, p := range []pair{{x, y}, {tcon("T", x, y), tcon("T", y, x)}, {tfun(x, tvar("b")), tfun(tvar("b"), y)}} {
				if s, err := answer(t, []pair{p, {y, x}}); err != nil && err != api.ErrType && err != api.ErrOccur {
					t.Error(say(s, err))
				}
			}
		}
	}
}
