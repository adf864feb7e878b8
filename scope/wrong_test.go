package scope_test

import (
	"math"
	"slices"
	"testing"

	"paideia/api"
	"paideia/scope"
)

func expr(kind int, name string, l ...api.Expr) api.Expr {
	return api.Expr{Kind: kind, Name: name, Pos: 5, L: l}
}

// isFault asks for what is amiss first in a program made by hand.
func isFault(t *testing.T, p api.Program, want string) {
	t.Helper()
	if got := say(scope.Check(p, knownVars(), knownCons())); got != want {
		t.Errorf("%+v: %s; want %s", p, got, want)
	}
}

func body(e api.Expr) api.Program {
	return api.Program{Binds: []api.Bind{{Name: "x", Body: e}}}
}

func TestZeroValues(t *testing.T) {
	areNames(t, scope.Free(api.Expr{}))
	for _, l := range [][]string{nil, {}, {""}} {
		for _, m := range [][]string{nil, {}, {""}} {
			if err := scope.Check(api.Program{}, l, m); err != nil {
				t.Error(say(err))
			}
		}
	}
}

// nil and the empty list are the same, at each place.
func TestEmptyLists(t *testing.T) {
	e := expr(api.ELet, "", api.Expr{Kind: api.ECase, L: []api.Expr{evar("a")}, Alts: []api.Alt{{Con: "Known", Vars: []string{}, Body: expr(api.EApp, "", evar("b"), evar("c"))}}})
	e.L[0].Alts[0].Body.Alts, e.L[0].Alts[0].Body.Binds, e.Binds, e.Alts = []api.Alt{}, []api.Bind{}, []api.Bind{}, []api.Alt{}
	areNames(t, scope.Free(e), "a", "b", "c")
	isFault(t, body(e), "7777: a name that is nobody's")
	isFault(t, api.Program{Datas: []api.Data{}, Classes: []api.Class{}, Instances: []api.Instance{}, Binds: []api.Bind{}}, "nothing")
	isFault(t, api.Program{
		Datas:     []api.Data{{Name: "T", Vars: []string{}, Cons: []api.Con{}, Deriving: []string{}}},
		Classes:   []api.Class{{Name: "C", Supers: []string{}, Methods: []api.Method{}, Defaults: []api.Bind{}}},
		Instances: []api.Instance{{Vars: []string{}, Context: []api.Pred{}, Binds: []api.Bind{}}, {}},
	}, "nothing")
}

func kinds() []int {
	return []int{math.MinInt, -1, 0, api.EVar, api.ECon, api.EInt, api.EChar, api.EApp, api.ELam, api.ELet, api.ECase, 9, math.MaxInt}
}

// lacking are expressions of each kind, and of kinds that are none, with as many parts as none, one, two, three.
func lacking() (l []api.Expr) {
	for _, kind := range kinds() {
		for n := range 4 {
			parts := []api.Expr{evar("a"), {}, expr(api.ECon, "Known")}[:n:n]
			alts := []api.Alt{{}, {Con: "Known", Vars: []string{"", "_"}, Body: evar("")}, {Vars: []string{"b", "c"}, Body: evar("b")}}[:n:n]
			binds := []api.Bind{{}, {Name: "b", Body: evar("b")}, {Name: "_", Body: evar("a")}}[:n:n]
			l = append(l, expr(kind, "d", parts...), api.Expr{Kind: kind, L: parts, Alts: alts, Binds: binds}, api.Expr{Kind: kind, Alts: alts}, api.Expr{Kind: kind, Binds: binds})
		}
	}
	return l
}

// No call panics, whatever is lacking or too much; what is free in a part that is there is told.
func TestNoneOfThemPanics(t *testing.T) {
	for _, x := range lacking() {
		free := scope.Free(x)
		for _, y := range lacking() {
			both := scope.Free(expr(api.EApp, "", x, y, evar("z")))
			if !slices.Equal(both[:len(free)], free) || both[len(both)-1] != "z" {
				t.Fatalf("%+v, %+v: %q", x, y, both)
			}
			p := api.Program{
				Datas:     []api.Data{{}, {Name: "T", Cons: []api.Con{{Name: "C", Args: []api.Type{{}}}}}},
				Classes:   []api.Class{{Defaults: []api.Bind{{Body: x}}}},
				Instances: []api.Instance{{Binds: []api.Bind{{Body: y}}}},
				Binds:     []api.Bind{{Name: "x", Body: x}, {Name: "y", Body: y}},
			}
			if err := scope.Check(p, append(both, free...), nil); err != nil {
				isPlaced(t, err)
			}
		}
	}
	for n := range 4 {
		p := api.Program{Datas: make([]api.Data, n), Classes: make([]api.Class, n), Instances: make([]api.Instance, n), Binds: make([]api.Bind, n)}
		want := "0: a name twice"
		if n < 2 {
			want = "nothing"
		}
		isFault(t, p, want)
	}
}

func isPlaced(t *testing.T, err error) {
	t.Helper()
	at, ok := err.(*api.At)
	if !ok || at.Err != api.ErrScope && at.Err != api.ErrTwice {
		t.Errorf("%v", err)
	}
}

// An expression has the parts of its kind alone, all of them.
func TestPartsOfTheirKind(t *testing.T) {
	full := func(kind int) api.Expr {
		return api.Expr{Kind: kind, Name: "a", L: []api.Expr{evar("l"), evar("a"), evar("m"), evar("b")}, Alts: []api.Alt{{Vars: []string{"v"}, Body: expr(api.EApp, "", evar("v"), evar("n"))}}, Binds: []api.Bind{{Name: "b", Body: evar("o")}}}
	}
	for _, kind := range kinds() {
		var want []string
		switch kind {
		case api.EVar:
			want = []string{"a"}
		case api.EApp:
			want = []string{"l", "a", "m", "b"}
		case api.ELam:
			want = []string{"l", "m", "b"}
		case api.ELet:
			want = []string{"o", "l", "a", "m"}
		case api.ECase:
			want = []string{"l", "a", "m", "b", "n"}
		}
		areNames(t, scope.Free(full(kind)), want...)
	}
}

// Names are names, whatever their bytes are; each is itself alone.
func TestOddNames(t *testing.T) {
	names := []string{"", "\xff", "\x80", "é", "a b", "A", "a", "(+)", "=", "?1", "case"}
	var l []api.Expr
	for _, name := range names {
		l = append(l, evar(name))
	}
	all := expr(api.EApp, "", append(l, l...)...)
	areNames(t, scope.Free(all), names...)
	for i, name := range names {
		rest := slices.Delete(slices.Clone(names), i, i+1)
		areNames(t, scope.Free(expr(api.ELam, name, all)), rest...)
		areNames(t, scope.Free(api.Expr{Kind: api.ELet, Binds: []api.Bind{{Name: name, Body: all}}, L: []api.Expr{all}}), rest...)
		areNames(t, scope.Free(api.Expr{Kind: api.ECase, Alts: []api.Alt{{Con: "A", Vars: []string{name}, Body: all}}}), rest...)
		areNames(t, scope.Free(api.Expr{Kind: api.ECase, Alts: []api.Alt{{Con: name, Body: all}}}), names...)
		if err := scope.Check(body(all), rest, nil); say(err) != "7777: a name that is nobody's" {
			t.Errorf("%q: %s", name, say(err))
		}
		if err := scope.Check(body(all), names, []string{name}); err != nil {
			t.Errorf("%q: %s", name, say(err))
		}
		two := api.Program{Binds: []api.Bind{{Name: name, Pos: 1}, {Name: name + "'", Pos: 2}, {Name: name, Pos: 3}}}
		isFault(t, two, "3: a name twice")
	}
	areNames(t, scope.Free(expr(api.ECon, "", l...)))
}

// A place is told as it is, whatever it is.
func TestOddPlaces(t *testing.T) {
	for _, pos := range []int{math.MinInt, -1, 0, 1, math.MaxInt} {
		for i, p := range []api.Program{
			{Datas: []api.Data{{Name: "T"}, {Name: "T", Pos: pos}}},
			{Classes: []api.Class{{Methods: []api.Method{{Name: "known"}}, Pos: pos}}},
			{Binds: []api.Bind{{Name: "known", Pos: pos}}},
			{Instances: []api.Instance{{Binds: []api.Bind{{}, {Pos: pos}}}}},
			body(api.Expr{Kind: api.EVar, Name: "z", Pos: pos}),
			body(api.Expr{Kind: api.ECon, Name: "Z", Pos: pos}),
			body(api.Expr{Kind: api.ECase, Alts: []api.Alt{{Con: "Z", Pos: pos}}}),
			body(api.Expr{Kind: api.ECase, Alts: []api.Alt{{Con: "Known", Vars: []string{"a", "a"}, Pos: pos}}}),
		} {
			at, ok := scope.Check(p, knownVars(), knownCons()).(*api.At)
			if !ok || at.Pos != pos {
				t.Errorf("%d: %+v; want %d", i, at, pos)
			}
		}
	}
}

// The same name in what is there besides is not amiss: it isn't the program that has it twice.
func TestBesidesTwice(t *testing.T) {
	p := readProgram("x = known Known")
	if err := scope.Check(p, []string{"known", "y", "known", "known"}, []string{"Known", "C", "Known"}); err != nil {
		t.Error(say(err))
	}
	p = readProgram("y = 1")
	if err := scope.Check(p, []string{"known", "y", "known", "y"}, nil); say(err) != "0: a name twice" {
		t.Error(say(err))
	}
}

// `_` is no variable that an alternative could bind or have twice, wherever it is.
func TestBlanksByHand(t *testing.T) {
	blank := api.Alt{Vars: []string{"_", "_"}, Body: evar("_")}
	areNames(t, scope.Free(api.Expr{Kind: api.ECase, Alts: []api.Alt{blank}}), "_")
	isFault(t, body(api.Expr{Kind: api.ECase, Alts: []api.Alt{blank}}), "7777: a name that is nobody's")
	blank.Body = api.Expr{}
	isFault(t, body(api.Expr{Kind: api.ECase, Alts: []api.Alt{blank}}), "nothing")
	two := api.Alt{Vars: []string{"a", "a"}, Pos: 3}
	isFault(t, body(api.Expr{Kind: api.ECase, Alts: []api.Alt{blank, two}}), "3: a name twice")
}
