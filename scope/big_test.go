package scope_test

import (
	"slices"
	"strconv"
	"testing"

	"paideia/api"
	"paideia/scope"
)

// Each call here ends, and soon: none goes through all that is bound, or known, for each name.

const many = 1 << 16

func numbered(i int) string { return "v" + strconv.Itoa(i) }

func manyNames() []string {
	l := make([]string, many)
	for i := range l {
		l[i] = numbered(i)
	}
	return l
}

// wide is an application of many.
func wide(of func(i int) api.Expr) api.Expr {
	l := make([]api.Expr, many)
	for i := range l {
		l[i] = of(i)
	}
	return expr(api.EApp, "", l...)
}

func areMany(t *testing.T, got, want []string) {
	t.Helper()
	if !slices.Equal(got, want) {
		t.Errorf("%d names; want %d, others", len(got), len(want))
	}
}

func allVars() api.Expr { return wide(func(i int) api.Expr { return evar(numbered(i)) }) }

func TestManyFree(t *testing.T) {
	all := allVars()
	areMany(t, scope.Free(expr(api.EApp, "", all, all, all)), manyNames())
	back := wide(func(i int) api.Expr { return evar(numbered(many - 1 - i)) })
	want := manyNames()
	slices.Reverse(want)
	areMany(t, scope.Free(expr(api.EApp, "", back, all)), want)
}

// deep puts f around an expression, as deep as the document goes.
func deep(e api.Expr, f func(i int, e api.Expr) api.Expr) api.Expr {
	for i := range many - 4 {
		e = f(i, e)
	}
	return e
}

// Many that bind, within one another, and as many names below all of them.
func TestDeepBinders(t *testing.T) {
	x := evar("x")
	for name, f := range map[string]func(i int, e api.Expr) api.Expr{
		"lambdas": func(i int, e api.Expr) api.Expr { return expr(api.ELam, numbered(i), e) },
		"lets": func(i int, e api.Expr) api.Expr {
			return api.Expr{Kind: api.ELet, Binds: []api.Bind{{Name: numbered(i), Body: x}}, L: []api.Expr{e}}
		},
		"definitions": func(i int, e api.Expr) api.Expr {
			return api.Expr{Kind: api.ELet, Binds: []api.Bind{{Name: numbered(i), Body: e}}, L: []api.Expr{x}}
		},
		"cases": func(i int, e api.Expr) api.Expr {
			return api.Expr{Kind: api.ECase, L: []api.Expr{x}, Alts: []api.Alt{{Con: "Known", Vars: []string{numbered(i), "_"}, Body: e}}}
		},
	} {
		e := deep(allVars(), f)
		free := scope.Free(e)
		slices.Sort(free)
		want := append(manyNames()[many-4:], "x")
		if name == "lambdas" {
			want = want[:4]
		}
		areMany(t, free, want)
		if err := scope.Check(body(e), want[:4], knownCons()); err != nil { // x is body's own
			t.Errorf("%s: %s", name, say(err))
		}
		if err := scope.Check(body(e), want[:3], knownCons()); say(err) != "7777: a name that is nobody's" {
			t.Errorf("%s: %s", name, say(err))
		}
	}
}

// What binds nothing, as deep.
func TestDeepParts(t *testing.T) {
	x := evar("x")
	for i, f := range []func(i int, e api.Expr) api.Expr{
		func(i int, e api.Expr) api.Expr { return expr(api.EApp, "", e, x) },
		func(i int, e api.Expr) api.Expr { return expr(api.EApp, "", x, e) },
		func(i int, e api.Expr) api.Expr { return expr(api.ELam, "y", e) },
		func(i int, e api.Expr) api.Expr { return expr(api.ELet, "", e) },
		func(i int, e api.Expr) api.Expr { return expr(api.ECase, "", e) },
		func(i int, e api.Expr) api.Expr {
			return api.Expr{Kind: api.ECase, L: []api.Expr{x}, Alts: []api.Alt{{Body: e}}}
		},
	} {
		e := deep(expr(api.EApp, "", evar("z"), x), f)
		free := scope.Free(e)
		slices.Sort(free)
		areNames(t, free, "x", "z")
		if err := scope.Check(body(e), []string{"z"}, nil); err != nil {
			t.Errorf("%d: %s", i, say(err))
		}
		if err := scope.Check(body(e), nil, nil); say(err) != "7777: a name that is nobody's" {
			t.Errorf("%d: %s", i, say(err))
		}
	}
}

// A let of many names, each of which is asked for in each, and many lets with many names around.
func TestManyInLets(t *testing.T) {
	let := api.Expr{Kind: api.ELet, L: []api.Expr{allVars()}}
	for i := range many {
		let.Binds = append(let.Binds, api.Bind{Name: numbered(i), Body: evar(numbered((i + 1) % many)), Pos: i})
	}
	inner := api.Expr{Kind: api.ELet, Binds: []api.Bind{{Name: "x", Body: evar("v7")}}, L: []api.Expr{evar("x")}}
	let.L = append(let.L, wide(func(int) api.Expr { return inner }))
	areNames(t, scope.Free(let))
	if err := scope.Check(body(let), nil, nil); err != nil {
		t.Error(say(err))
	}
	let.Binds[many-1].Name = "v0"
	areNames(t, scope.Free(let), numbered(many-1))
	if err := scope.Check(body(let), nil, nil); say(err) != "65535: a name twice" {
		t.Error(say(err))
	}
}

// An alternative of many variables, and many alternatives.
func TestManyInCases(t *testing.T) {
	e := api.Expr{Kind: api.ECase, Alts: []api.Alt{{Con: "Known", Vars: manyNames(), Body: allVars()}}}
	for i := range many {
		e.Alts = append(e.Alts, api.Alt{Con: "Known", Vars: []string{numbered(i), "_", "_"}, Body: evar(numbered(i))})
	}
	areNames(t, scope.Free(e))
	if err := scope.Check(body(e), nil, knownCons()); err != nil {
		t.Error(say(err))
	}
	e.Alts[0].Vars[many-1], e.Alts[0].Pos = "v0", 9
	areNames(t, scope.Free(e), numbered(many-1))
	if err := scope.Check(body(e), nil, knownCons()); say(err) != "9: a name twice" {
		t.Error(say(err))
	}
}

// A program of many of each, beside many others.
func TestManyDefined(t *testing.T) {
	var p api.Program
	var vars, cons []string
	for i := range many {
		n := numbered(i)
		vars, cons = append(vars, "y"+n), append(cons, "Y"+n)
		use := expr(api.EApp, "", evar("y"+n), evar("m"+n), evar("x"+n), expr(api.ECon, "Y"+n), expr(api.ECon, "K"+n))
		p.Datas = append(p.Datas, api.Data{Name: "T" + n, Vars: []string{"a", "b"}, Cons: []api.Con{{Name: "K" + n}, {Name: "L" + n}}})
		p.Classes = append(p.Classes, api.Class{Name: "C" + n, Methods: []api.Method{{Name: "m" + n}, {Name: "n" + n}}, Defaults: []api.Bind{{Name: "m", Body: use}, {Name: "n"}}})
		p.Instances = append(p.Instances, api.Instance{Binds: []api.Bind{{Name: "m"}, {Name: "n", Body: use}}})
		p.Binds = append(p.Binds, api.Bind{Name: "x" + n, Body: use, Pos: i})
	}
	if err := scope.Check(p, vars, cons); err != nil {
		t.Error(say(err))
	}
	gotVars, gotCons := scope.Names(p)
	if len(gotVars) != 3*many || gotVars[2*many] != "xv0" || gotVars[3] != "nv1" || len(gotCons) != 2*many || gotCons[3] != "Lv1" {
		t.Error(len(gotVars), len(gotCons))
	}
	p.Binds[many-1].Name = "nv7"
	if err := scope.Check(p, vars, cons); say(err) != "65535: a name twice" {
		t.Error(say(err))
	}
	p.Datas[many-1] = api.Data{Name: "T", Cons: []api.Con{{Name: "Lv0"}}, Pos: 3}
	if err := scope.Check(p, vars, cons); say(err) != "3: a name twice" {
		t.Error(say(err))
	}
}
