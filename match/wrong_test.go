package match_test

import (
	"math"
	"testing"

	"paideia/api"
	"paideia/match"
	"paideia/types"
)

// one asks Match of two types.
func one(t *testing.T, a, b api.Type, want string) {
	t.Helper()
	if got := say(answer(t, a, b)); got != want {
		t.Errorf("%+v, %+v: %s; want %s", a, b, got, want)
	}
}

// nil and the empty list are the same, at each place.
func TestEmptyLists(t *testing.T) {
	empty := []api.Type{}
	a := api.Type{Kind: api.TVar, Name: "a", Args: empty}
	unit := api.Type{Kind: api.TCon, Name: "T", Args: empty}
	one(t, a, tvar("a"), "")
	one(t, tvar("a"), a, "")
	one(t, unit, tcon("T"), "")
	one(t, tcon("T"), unit, "")
	one(t, a, unit, "a = T")
	one(t, unit, a, "no")
	one(t, a, tvar("b"), "a = b")
	one(t, tvar("b"), a, "b = a")
	one(t, unit, tcon("T", a), "no")
	one(t, tcon("T", a), unit, "no")
	one(t, tcon("P", a, tvar("a")), tcon("P", unit, tcon("T")), "a = T")
	one(t, tcon("P", tvar("a"), a), tcon("P", tcon("T"), unit), "a = T")
	one(t, tcon("P", a, tvar("a")), tcon("P", tvar("a"), a), "")
	one(t, tcon("P", a, tvar("a")), tcon("P", a, unit), "no")
	if !match.Both(a, tvar("b")) || !match.Both(tvar("b"), a) || !match.Both(unit, tcon("T")) || match.Both(a, unit) {
		t.Error("Both")
	}
	one(t, api.Type{Kind: api.TFun, Args: empty}, api.Type{Kind: api.TFun}, "")
}

// Names are names, whatever their bytes are.
func TestOddNames(t *testing.T) {
	one(t, tvar(""), tvar(""), "")
	one(t, tcon(""), tcon(""), "")
	one(t, tcon(""), tcon("T"), "no")
	one(t, tcon("a"), tcon("A"), "no")
	one(t, tcon("T\x80"), tcon("T\xff"), "no")
	one(t, tvar("?1"), tvar("?2"), "?1 = ?2")
	one(t, tcon("P", tvar("a\x80"), tvar("a\xff")), tcon("P", tcon("T"), tcon("U")), "a\x80 = T; a\xff = U")
	one(t, tcon("P", tvar("A"), tvar("a")), tcon("P", tcon("T"), tcon("U")), "A = T; a = U")
	one(t, tcon("P", tvar(""), tvar("")), tcon("P", tcon("T"), tcon("U")), "no")
	s, is := answer(t, tvar(""), tcon("T", tvar("")))
	if x, found := s.Get(""); !is || !found || !types.Same(x, tcon("T", tvar(""))) {
		t.Error(say(s, is))
	}
}

// A function of other than two is the case of one with as many alone.
func TestFunctionsThatLack(t *testing.T) {
	fun := func(args ...api.Type) api.Type { return api.Type{Kind: api.TFun, Args: args} }
	a, b, c, in := tvar("a"), tvar("b"), tvar("c"), tcon("T")
	l := []api.Type{fun(), fun(a), fun(a, b), fun(a, b, c)}
	for i, x := range l {
		for j, y := range l {
			want := "no"
			if i == j {
				want = ""
			}
			one(t, x, y, want)
			if match.Both(x, y) != (i == j) {
				t.Error(i, j)
			}
		}
	}
	one(t, fun(a), fun(in), "a = T")
	one(t, fun(a, a, b), fun(in, in, c), "a = T; b = c")
	one(t, fun(a, a, b), fun(in, c, c), "no")
	one(t, fun(in, in, in), fun(in, in, tcon("U")), "no")
}

// kinds are those of no type of the three kinds.
func kinds() []int { return []int{math.MinInt, -1, 0, api.TAll, 5, math.MaxInt} }

// What is of none of the three kinds is a case of a variable, and of what makes it by its variables' types; it is no variable, whatever its name.
func TestOtherKinds(t *testing.T) {
	for _, kind := range kinds() {
		x := api.Type{Kind: kind, Name: "a", Args: []api.Type{tcon("U")}}
		y := api.Type{Kind: kind, Name: "a", Args: []api.Type{tvar("b")}}
		s, is := answer(t, tvar("a"), x)
		if got, found := s.Get("a"); !is || !found || !types.Same(got, x) {
			t.Errorf("%+v: %+v", x, got)
		}
		one(t, x, x, "")
		one(t, y, y, "")
		one(t, y, x, "b = U")
		one(t, x, y, "no")
		one(t, x, tvar("a"), "no")
		one(t, tcon("P", y, tvar("b")), tcon("P", x, tcon("U")), "b = U")
		one(t, tcon("P", y, tvar("b")), tcon("P", x, tcon("V")), "no")
		one(t, tcon("P", tvar("c"), tvar("c")), tcon("P", x, y), "no")
		for _, z := range []api.Type{{}, {Kind: kind}, {Kind: kind, Name: "a"}, {Kind: kind, Name: "b", Args: x.Args}, {Kind: kind, Name: "a", Args: []api.Type{tcon("U"), tcon("U")}}, tcon("a", tcon("U")), tcon("a"), tfun(tcon("U"), tcon("U"))} {
			one(t, x, z, "no")
			one(t, z, x, "no")
			if match.Both(x, z) || match.Both(z, x) {
				t.Errorf("%+v, %+v: Both", x, z)
			}
		}
		if !match.Both(x, x) || match.Both(y, x) || !match.Both(y, api.Type{Kind: kind, Name: "a", Args: []api.Type{tvar("c")}}) {
			t.Error(kind)
		}
	}
	one(t, api.Type{}, api.Type{}, "")
	one(t, tcon("T", api.Type{}), tcon("T", api.Type{}), "")
}

// A variable is its name alone; one of the second type is like a constructor, with all that it has.
func TestVariablesWithArguments(t *testing.T) {
	a := tvar("a")
	x := api.Type{Kind: api.TVar, Name: "a", Args: []api.Type{tvar("b")}}
	y := api.Type{Kind: api.TVar, Name: "a", Args: []api.Type{tcon("T")}}
	for _, z := range []api.Type{x, y} {
		for _, v := range []api.Type{a, x, tvar("c")} {
			s, is := answer(t, v, z)
			if got, found := s.Get(v.Name); !is || !found || s.Len() != 1 || !types.Same(got, z) {
				t.Errorf("%+v: %+v", v, got)
			}
		}
	}
	one(t, x, tcon("T"), "a = T")
	one(t, tcon("P", x, a), tcon("P", tcon("T"), tcon("T")), "a = T")
	one(t, tcon("P", x, a), tcon("P", tcon("T"), tcon("U")), "no")
	one(t, tcon("P", tvar("c"), tvar("c")), tcon("P", x, y), "no")
	one(t, tcon("P", tvar("c"), tvar("c")), tcon("P", x, a), "no")
	one(t, tcon("a", tvar("b")), x, "no")
}

// No call panics, whatever is lacking or too much.
func TestNoneOfThemPanics(t *testing.T) {
	var l []api.Type
	for _, kind := range append(kinds(), 1, 2, 3) {
		for n := range 4 {
			args := []api.Type{tvar("b"), {}, tcon("T", tvar("c"))}[:n]
			l = append(l, api.Type{Kind: kind, Args: make([]api.Type, n)}, api.Type{Kind: kind, Name: "b", Args: args})
		}
	}
	for i, x := range l {
		for j, y := range l {
			_, is := match.Match(x, y)
			_, back := match.Match(y, x)
			if match.Both(x, y) != (is && back) || match.Both(y, x) != (is && back) {
				t.Errorf("%+v, %+v: %t, %t", x, y, is, back)
			}
			if i == j && !is {
				t.Errorf("%+v: no case of itself", x)
			}
			for _, p := range [][2]api.Type{{tcon("T", x, y), tcon("T", y, x)}, {tfun(x, tvar("b")), tfun(tvar("b"), y)}, {tfun(tvar("b"), tvar("b")), tfun(x, y)}} {
				if _, is := match.Match(p[0], p[1]); match.Both(p[0], p[1]) && !is {
					t.Errorf("%+v, %+v", p[0], p[1])
				}
			}
		}
	}
}
