package classes_test

import (
	"slices"
	"strconv"
	"testing"

	"paideia/api"
	"paideia/classes"
	"paideia/cons"
	"paideia/types"
)

// Each call here ends, and soon: none goes through all that is there for each name, or all ways up.

const many = 1 << 16

func numbered(name string, i int) string { return name + strconv.Itoa(i) }

// chain are classes each of which is below the next one.
func chain(n int) []api.Class {
	l := make([]api.Class, n)
	for i := range l {
		l[i] = byHand(numbered("C", i), i, numbered("m", i), numbered("n", i))
		l[i].Defaults = []api.Bind{{Name: numbered("n", i)}}
		if i+1 < n {
			l[i].Supers = []string{numbered("C", i+1)}
		}
	}
	return l
}

func isThere(t *testing.T, e *classes.Env) {
	t.Helper()
	for i := range many {
		class, place, is := e.Method(numbered("n", i))
		k, isClass := e.Class(numbered("C", i))
		s, isScheme := e.Scheme(numbered("m", i))
		if class != numbered("C", i) || place != 1 || !is || k.Pos != i || !isClass || s.Context[0].Class != class || !isScheme {
			t.Fatal(i, class, place, k, s)
		}
	}
	if l := e.Classes(); len(l) != many || l[many/3].Name != numbered("C", many/3) {
		t.Error(len(l))
	}
	if above := e.Above("C0"); len(above) != many-1 || above[0] != "C1" || above[many-2] != "C65535" {
		t.Error(len(above))
	}
	if above := e.Above("C65534"); len(above) != 1 || len(e.Above("C65535")) != 0 {
		t.Error(above)
	}
}

// A chain may stand in the row in either direction.
func TestManyClasses(t *testing.T) {
	var e, back classes.Env
	c, l := &cons.Env{}, chain(many)
	if err := e.Add(c, l...); err != nil {
		t.Fatal(say(err))
	}
	isThere(t, &e)
	for i := range l {
		k := byHand("New", i, "new", numbered("n", i))
		if err := e.Add(c, k); say(err) != strconv.Itoa(i)+": a name twice" {
			t.Fatal(say(err))
		}
	}
	slices.Reverse(l)
	if err := back.Add(c, l...); err != nil || len(back.Above("C0")) != many-1 {
		t.Error(say(err))
	}
}

// What is amiss with the last of many.
func TestManyClassesAmiss(t *testing.T) {
	var e classes.Env
	c := someTypes()
	for range 3 {
		l := chain(many)
		l[many-1].Methods[1].Name = "m7"
		isSaid(t, e.Add(c, l...), "65535: a name twice")
		l[many-1].Methods[1].Name, l[many-1].Methods[1].Type = "n65535", types.Con("Q")
		isSaid(t, e.Add(c, l...), "65535: a name that is nobody's")
		l[many-1].Supers = []string{"Q"}
		isSaid(t, e.Add(c, l...), "65535: not a class, or not an instance")
		l[many-1].Supers = []string{"C65535"}
		isSaid(t, e.Add(c, l...), "65535: not a class, or not an instance")
		l[many-1].Supers = []string{"C65000"}
		isSaid(t, e.Add(c, l...), "65000: not a class, or not an instance")
		l[many-1].Supers = []string{"C0"}
		isSaid(t, e.Add(c, l...), "0: not a class, or not an instance")
	}
	if len(e.Classes()) != 0 {
		t.Error("something was added")
	}
}

func isSaid(t *testing.T, err error, want string) {
	t.Helper()
	if say(err) != want {
		t.Errorf("%s; want %s", say(err), want)
	}
}

// One by one, each with those ahead of it there, those above it among them.
func TestManyAdds(t *testing.T) {
	var e classes.Env
	c := &cons.Env{}
	for i, k := range slices.Backward(chain(many)) {
		if err := e.Add(c, k); err != nil {
			t.Fatal(i, say(err))
		}
		if err := e.Add(c, byHandBelow("New", numbered("C", i-1))); say(err) != "0: not a class, or not an instance" {
			t.Fatal(i, say(err))
		}
	}
	if above := e.Above("C0"); len(above) != many-1 || above[0] != "C1" {
		t.Error(len(above))
	}
}

// A chain that is longer than parts may be nested.
func TestLongChain(t *testing.T) {
	const long = 1 << 18
	l := make([]api.Class, long)
	for i := range l {
		l[i] = byHandBelow(numbered("C", i), numbered("C", i+1))
	}
	l[long-1].Supers = nil
	var e classes.Env
	if err := e.Add(&cons.Env{}, l...); err != nil {
		t.Fatal(say(err))
	}
	if above := e.Above("C0"); len(above) != long-1 || above[long-2] != numbered("C", long-1) {
		t.Error(len(above))
	}
}

// Two classes a step, each below both of the next one: there are more ways up than could be gone.
func TestManyWaysUp(t *testing.T) {
	const steps = 2000
	var l []api.Class
	for i := range steps {
		above := []string{numbered("D", i+1), numbered("E", i+1)}
		l = append(l, byHandBelow(numbered("D", i), above...), byHandBelow(numbered("E", i), above...))
	}
	l = append(l, byHand(numbered("D", steps), 0), byHand(numbered("E", steps), 0))
	var e classes.Env
	if err := e.Add(&cons.Env{}, l...); err != nil {
		t.Fatal(say(err))
	}
	above := e.Above("D0")
	if len(above) != 2*steps || above[0] != "D1" || above[steps] != numbered("E", steps) || above[2*steps-1] != "E1" {
		t.Error(len(above))
	}
	l[2*steps].Supers = []string{"E1"}
	isSaid(t, new(classes.Env).Add(&cons.Env{}, l...), "0: not a class, or not an instance")
}

// Many above one class, and many below one.
func TestManySupers(t *testing.T) {
	all := byHandBelow("All")
	l := []api.Class{byHand("Top", 0)}
	for i := range many {
		all.Supers = append(all.Supers, numbered("C", i))
		l = append(l, byHandBelow(numbered("C", i), "Top"))
	}
	var e classes.Env
	if err := e.Add(&cons.Env{}, append(l, all)...); err != nil {
		t.Fatal(say(err))
	}
	above := e.Above("All")
	if len(above) != many+1 || above[0] != "C0" || above[1] != "Top" || above[2] != "C1" || above[many] != "C65535" {
		t.Error(len(above))
	}
	all.Name, all.Supers[0], all.Pos = "New", "C65535", 9
	isSaid(t, e.Add(&cons.Env{}, all), "9: a name twice")
	all.Supers[0] = "C65536"
	isSaid(t, e.Add(&cons.Env{}, all), "9: not a class, or not an instance")
	all.Supers[0] = "New"
	isSaid(t, e.Add(&cons.Env{}, all), "9: not a class, or not an instance")
}

func TestManyMethods(t *testing.T) {
	k := byHandBelow("X")
	for i := range many {
		k.Methods = append(k.Methods, api.Method{Name: numbered("m", i), Type: types.Fun(types.Var(numbered("v", i)), types.Var("a"))})
		k.Defaults = append(k.Defaults, api.Bind{Name: numbered("m", many-1-i)})
	}
	var e classes.Env
	if err := e.Add(&cons.Env{}, k); err != nil {
		t.Fatal(say(err))
	}
	for i := range many {
		class, place, is := e.Method(numbered("m", i))
		s, isScheme := e.Scheme(numbered("m", i))
		if class != "X" || place != i || !is || !slices.Equal(s.Vars, []string{"a", numbered("v", i)}) || !isScheme {
			t.Fatal(i, class, place, s)
		}
	}
	k.Pos, k.Defaults[0].Name = 6, "m0"
	isSaid(t, new(classes.Env).Add(&cons.Env{}, k), "6: not a class, or not an instance")
	k.Methods[many-1].Name = "m0"
	isSaid(t, new(classes.Env).Add(&cons.Env{}, k), "6: a name twice")
}

func TestManyVariables(t *testing.T) {
	var parts []api.Type
	for i := range many / 2 {
		parts = append(parts, types.Var(numbered("v", i)))
	}
	k := of(types.Fun(append(parts, types.Var("a"))...))
	var e classes.Env
	if err := e.Add(&cons.Env{}, k); err != nil {
		t.Fatal(say(err))
	}
	if s, is := e.Scheme("m"); len(s.Vars) != many/2+1 || s.Vars[0] != "a" || s.Vars[1] != "v0" || s.Vars[many/2] != "v32767" || !is {
		t.Error(len(s.Vars))
	}
}

// Types of the deepest that the document speaks of; what is amiss stands in the innermost of them.
func TestDeepTypes(t *testing.T) {
	for in, want := range map[string]string{"a": "nothing", "Int": "8: not a class, or not an instance", "b": "8: not a class, or not an instance", "L": "8: a type with other arguments", "Q": "8: a name that is nobody's"} {
		inner := types.Con(in)
		if in == "a" || in == "b" {
			inner = types.Var(in)
		}
		right, left, deep := inner, inner, inner
		for range many - 6 {
			right, left, deep = api.Type{Kind: api.TFun, Args: []api.Type{types.Var("c"), right}}, api.Type{Kind: api.TFun, Args: []api.Type{left, types.Var("c")}}, api.Type{Kind: api.TCon, Name: "L", Args: []api.Type{deep}}
		}
		for _, x := range []api.Type{right, left, deep} {
			e := known()
			isSaid(t, e.Add(someTypes(), of(x)), want)
			if s, is := e.Scheme("m"); is != (want == "nothing") || is && !types.Same(s.Type, x) {
				t.Error(in, is)
			}
		}
	}
}

// Defaults' expressions of the deepest that the document speaks of.
func TestDeepDefaults(t *testing.T) {
	last := api.Expr{Kind: api.EInt, N: 7}
	applied, cased, let := last, last, last
	for range many - 6 {
		applied, cased, let = api.Expr{Kind: api.EApp, L: []api.Expr{applied, last}}, api.Expr{Kind: api.ECase, L: []api.Expr{last}, Alts: []api.Alt{{Body: cased}}}, api.Expr{Kind: api.ELet, L: []api.Expr{last}, Binds: []api.Bind{{Body: let}}}
	}
	for _, deep := range []api.Expr{applied, cased, let} {
		k := of(types.Var("a"))
		k.Defaults = []api.Bind{{Name: "m", Body: deep}}
		e := isAddedDeep(t, k)
		got, _ := e.Class("X")
		if n := depth(got.Defaults[0].Body); n != many-6 {
			t.Error(n)
		}
	}
}

func isAddedDeep(t *testing.T, k api.Class) *classes.Env {
	t.Helper()
	e := known()
	isSaid(t, e.Add(someTypes(), k), "nothing")
	return e
}

// depth tells how often an expression of the ones above is nested.
func depth(e api.Expr) (n int) {
	for ; e.Kind != api.EInt; n++ {
		switch e.Kind {
		case api.EApp:
			e = e.L[0]
		case api.ECase:
			e = e.Alts[0].Body
		case api.ELet:
			e = e.Binds[0].Body
		}
	}
	return n
}
