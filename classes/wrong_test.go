package classes_test

import (
	"math"
	"slices"
	"testing"

	"paideia/api"
	"paideia/classes"
	"paideia/cons"
	"paideia/printer"
	"paideia/types"
)

// isAdded adds classes made by hand to known.
func isAdded(t *testing.T, want string, l ...api.Class) *classes.Env {
	t.Helper()
	e := known()
	before := tell(e)
	if got := say(e.Add(someTypes(), l...)); got != want {
		t.Errorf("%v: %s; want %s", l, got, want)
	}
	if want != "nothing" && tell(e) != before {
		t.Errorf("%v: behind an error it tells\n%s; before that\n%s", l, tell(e), before)
	}
	return e
}

// of is a class of one method, of that type.
func of(t api.Type) api.Class {
	return api.Class{Name: "X", Var: "a", Methods: []api.Method{{Name: "m", Type: t}}, Pos: 8}
}

func TestZeroValue(t *testing.T) {
	var e classes.Env
	if l := e.Classes(); len(l) > 0 {
		t.Error(l)
	}
	isNoName(t, &e, "", "A", "Eq")
	isNoMethod(t, &e, "", "p", "==")
	for text, want := range map[string]string{"class A a => B a where { }": "0: not a class, or not an instance", "class A a where { m :: T }": "0: a name that is nobody's", "class A a where { }; class A a where { }": "21: a name twice"} {
		if err := e.Add(&cons.Env{}, readClasses(text)...); say(err) != want {
			t.Errorf("%s: %s; want %s", text, say(err), want)
		}
	}
	if text := tell(&e); text != tell(&classes.Env{}) {
		t.Error(text)
	}
	if err := e.Add(&cons.Env{}, readClasses("class A a where { m :: a -> Int }")...); err != nil || len(e.Classes()) != 1 {
		t.Error(say(err))
	}
}

// nil and the empty list are the same, at each place.
func TestEmptyLists(t *testing.T) {
	empty := api.Type{Kind: api.TVar, Name: "a", Args: []api.Type{}}
	full := []api.Class{
		{Name: "X", Var: "a", Supers: []string{}, Methods: []api.Method{}, Defaults: []api.Bind{}},
		{Name: "Y", Var: "a", Supers: []string{"X"}, Methods: []api.Method{{Name: "m", Type: empty}}, Defaults: []api.Bind{{Name: "m", Sig: api.Scheme{Vars: []string{}, Context: []api.Pred{}}, Body: api.Expr{L: []api.Expr{}, Alts: []api.Alt{}, Binds: []api.Bind{}}}}},
	}
	none := []api.Class{{Name: "X", Var: "a"}, {Name: "Y", Var: "a", Supers: []string{"X"}, Methods: []api.Method{{Name: "m", Type: types.Var("a")}}, Defaults: []api.Bind{{Name: "m"}}}}
	if got, want := tell(isAdded(t, "nothing", full...)), tell(isAdded(t, "nothing", none...)); got != want {
		t.Errorf("%s; want %s", got, want)
	}
	// so a Default is none's, where there are no methods
	for _, methods := range [][]api.Method{nil, {}} {
		isAdded(t, "7: not a class, or not an instance", api.Class{Name: "X", Methods: methods, Defaults: []api.Bind{{}}, Pos: 7})
	}
}

// The empty name is one like others: nobody's, until it is defined; then it is there, and may not be again.
func TestEmptyNames(t *testing.T) {
	isAdded(t, "8: a name that is nobody's", of(types.Con("", types.Var("a"))))
	isAdded(t, "8: not a class, or not an instance", of(types.Var("")))
	isAdded(t, "4: not a class, or not an instance", api.Class{Name: "X", Supers: []string{""}, Pos: 4})
	isAdded(t, "4: not a class, or not an instance", api.Class{Supers: []string{""}, Pos: 4})
	isAdded(t, "4: a name twice", api.Class{Name: "X", Supers: []string{"", ""}, Pos: 4})
	isAdded(t, "3: a name twice", api.Class{}, api.Class{Pos: 3})
	isAdded(t, "2: a name twice", api.Class{Methods: []api.Method{{}, {}}, Pos: 2})
	isAdded(t, "2: a name twice", api.Class{Methods: []api.Method{{}}}, api.Class{Name: "X", Methods: []api.Method{{}}, Pos: 2})
	isAdded(t, "2: not a class, or not an instance", api.Class{Methods: []api.Method{{}}, Pos: 2})
	isAdded(t, "2: not a class, or not an instance", api.Class{Var: "a", Methods: []api.Method{{Type: types.Var("a")}}, Defaults: []api.Bind{{}, {}}, Pos: 2})
	e := isAdded(t, "nothing", api.Class{Supers: []string{"X", "A"}, Methods: []api.Method{{Type: types.Fun(types.Var("b"), types.Var(""))}}, Defaults: []api.Bind{{}}}, api.Class{Name: "X"})
	if k, is := e.Class(""); !is || k.Name != "" || len(k.Supers) != 2 || len(k.Methods) != 1 || len(k.Defaults) != 1 {
		t.Error(k, is)
	}
	if class, place, is := e.Method(""); class != "" || place != 0 || !is {
		t.Error(class, place, is)
	}
	if s, is := e.Scheme(""); !is || !slices.Equal(s.Vars, []string{"", "b"}) || len(s.Context) != 1 || s.Context[0].Class != "" || !types.Same(s.Context[0].Type, types.Var("")) {
		t.Error(s, is)
	}
	isAbove(t, e, map[string][]string{"": {"X", "A"}, "X": nil})
	if err := e.Add(someTypes(), api.Class{Pos: 5}); say(err) != "5: a name twice" {
		t.Error(say(err))
	}
	if err := e.Add(someTypes(), api.Class{Name: "Y", Supers: []string{"", "X"}}); err != nil {
		t.Error(say(err))
	}
	isAbove(t, e, map[string][]string{"Y": {"", "X", "A"}})
}

func oddNames() []string {
	return []string{"", "\xff", "\x80", "\x00", "é", "a b", "A B", "a", "_", "(+)", "=", "?1", "class", "->", "A ", "aA", "A\x00", " p"}
}

// Names are names, whatever their bytes are; each is itself alone.
func TestOddNames(t *testing.T) {
	var l []api.Class
	for i, name := range oddNames() {
		l = append(l, api.Class{Name: name, Var: name, Supers: oddNames()[i+1:], Methods: []api.Method{{Name: name, Type: types.Fun(types.Var("\xff\xff"), types.Var(name))}}, Defaults: []api.Bind{{Name: name, Pos: i}}, Pos: i})
	}
	e := isAdded(t, "nothing", l...)
	for i, name := range oddNames() {
		if class, place, is := e.Method(name); class != name || place != 0 || !is {
			t.Errorf("%q: %q, %d, %t", name, class, place, is)
		}
		if k, is := e.Class(name); k.Name != name || k.Pos != i || !is {
			t.Errorf("%q: %v, %t", name, k, is)
		}
		if s, is := e.Scheme(name); !is || !slices.Equal(s.Vars, []string{name, "\xff\xff"}) || s.Context[0].Class != name {
			t.Errorf("%q: %v, %t", name, s, is)
		}
		if above := e.Above(name); !slices.Equal(above, oddNames()[i+1:]) {
			t.Errorf("%q: %q", name, above)
		}
		if err := e.Add(someTypes(), api.Class{Name: name, Pos: 99}); say(err) != "99: a name twice" {
			t.Errorf("%q: %s", name, say(err))
		}
		if err := e.Add(someTypes(), api.Class{Name: "New", Methods: []api.Method{{Name: name}}, Pos: 98}); say(err) != "98: a name twice" {
			t.Errorf("%q: %s", name, say(err))
		}
	}
	long := string(slices.Repeat([]byte("T"), 3*api.MaxName)) // beyond what a parser takes
	isAdded(t, "nothing", api.Class{Name: long, Var: long, Methods: []api.Method{{Name: long, Type: types.Var(long)}}, Defaults: []api.Bind{{Name: long}}})
	isAdded(t, "8: not a class, or not an instance", api.Class{Name: long}, api.Class{Name: long[1:], Supers: []string{long[2:]}, Pos: 8})
	isAdded(t, "8: not a class, or not an instance", api.Class{Name: "X", Var: long, Methods: []api.Method{{Name: "m", Type: types.Var(long[1:])}}, Pos: 8})
}

// A place is told as it is, whatever it is.
func TestOddPlaces(t *testing.T) {
	for _, pos := range []int{math.MinInt, -1, 0, 1, math.MaxInt} {
		wrong := of(types.Con("Q"))
		wrong.Pos = pos
		for i, l := range [][]api.Class{
			{{Name: "A", Pos: pos}},
			{{Name: "X"}, {Name: "X", Pos: pos}},
			{{Name: "X", Methods: []api.Method{{Name: "p"}}, Pos: pos}},
			{{Name: "X", Supers: []string{"A", "A"}, Pos: pos}},
			{{Name: "X", Supers: []string{"Q"}, Pos: pos}, {Name: "Y", Pos: 5}},
			{{Name: "Y", Supers: []string{"X"}, Pos: 5}, {Name: "X", Supers: []string{"X"}, Pos: pos}, {Name: "Z", Pos: 6}},
			{{Name: "Y", Pos: 5}, wrong},
			{{Name: "X", Methods: []api.Method{{Name: "m", Type: types.Var("b")}}, Pos: pos}},
			{{Name: "X", Defaults: []api.Bind{{Name: "m", Pos: 7}}, Pos: pos}},
		} {
			at, ok := known().Add(someTypes(), l...).(*api.At)
			if !ok || at.Pos != pos {
				t.Errorf("%d: %+v; want %d", i, at, pos)
			}
		}
		e := isAdded(t, "nothing", api.Class{Name: "X", Pos: pos})
		if k, _ := e.Class("X"); k.Pos != pos || e.Classes()[3].Pos != pos {
			t.Error(k)
		}
	}
}

// A Default that has a signature, as no parser makes one in a class, is told as it came; that is looked at by no one here.
func TestSignedDefaults(t *testing.T) {
	k := of(types.Var("a"))
	k.Defaults = []api.Bind{{Name: "m", Signed: true, Sig: api.Scheme{Vars: []string{"b", "b"}, Context: []api.Pred{{Class: "Q", Type: types.Con("L", types.Con("T", types.Var("z")))}}, Type: types.Con("L")}, Body: api.Expr{Kind: 99, Pos: -3, Name: "n", N: 8}, Pos: -4}}
	e := isAdded(t, "nothing", k)
	got, is := e.Class("X")
	if !is {
		t.Error(got)
	}
	isClass(t, got, k)
}

// Functions of other than two, variables of arguments: their parts are looked at like others.
func TestOddTypes(t *testing.T) {
	for _, x := range []struct {
		t    api.Type
		want string
	}{
		{api.Type{Kind: api.TFun}, "8: not a class, or not an instance"},
		{api.Type{Kind: api.TFun, Name: "a"}, "8: not a class, or not an instance"},
		{api.Type{Kind: api.TFun, Args: []api.Type{types.Var("a")}}, "nothing"},
		{api.Type{Kind: api.TFun, Args: []api.Type{types.Var("b"), types.Var("c"), types.Var("a")}}, "nothing"},
		{api.Type{Kind: api.TFun, Args: []api.Type{types.Var("a"), types.Con("U"), types.Con("Q")}}, "8: a name that is nobody's"},
		{api.Type{Kind: api.TFun, Args: []api.Type{types.Con("U"), types.Con("L"), types.Con("Q")}}, "8: a type with other arguments"},
		{api.Type{Kind: api.TVar, Name: "a", Args: []api.Type{types.Con("Int")}}, "nothing"},
		{api.Type{Kind: api.TVar, Name: "b", Args: []api.Type{types.Con("L", types.Var("a"))}}, "nothing"},
		{api.Type{Kind: api.TVar, Name: "a", Args: []api.Type{types.Con("L")}}, "8: a type with other arguments"},
		{types.Con("a"), "8: a name that is nobody's"},
		{api.Type{}, "8: not a class, or not an instance"},
		{api.Type{Name: "a"}, "8: not a class, or not an instance"},
	} {
		isAdded(t, x.want, of(x.t))
	}
}

// A variable is its class' own, whatever another class calls its own.
func TestVariablesOfTwoClasses(t *testing.T) {
	e := isAdded(t, "nothing", readClasses("class Y a => X a where { m :: b -> a }; class X b => Z b where { n :: a -> b }; class Y b where { k :: b -> b' }")...)
	for method, want := range map[string]string{"m": "X a => b -> a", "n": "Z b => a -> b", "k": "Y b => b -> b'"} {
		if s, is := e.Scheme(method); printer.Scheme(s) != want || !is {
			t.Errorf("%s: %s; want %s", method, printer.Scheme(s), want)
		}
	}
}

// lacking are types of each kind, and of kinds that are none, with as many arguments as none, one, two, three.
func lacking() (l []api.Type) {
	for _, kind := range []int{math.MinInt, -1, 0, api.TVar, api.TCon, api.TFun, api.TAll, 5, math.MaxInt} {
		for _, name := range []string{"", "a", "b", "Int", "L", "Q"} {
			for n := range 4 {
				l = append(l, api.Type{Kind: kind, Name: name, Args: []api.Type{types.Var("a"), {}, types.Con("L")}[:n:n]})
			}
		}
	}
	return l
}

// lackingExprs are expressions of each kind, and of kinds that are none, that have all parts, or none.
func lackingExprs() (l []api.Expr) {
	for kind := -1; kind <= api.ECase+1; kind++ {
		none := api.Expr{Kind: kind}
		l = append(l, none, api.Expr{Kind: kind, Pos: -1, Name: "x", N: -1, L: []api.Expr{none, {}, none}, Alts: []api.Alt{{}, {Con: "N", Vars: []string{"", "x"}, Body: none}}, Binds: []api.Bind{{}, {Name: "x", Signed: true, Body: none}}})
	}
	return l
}

// No call panics, whatever is lacking or too much, and what was added is told as it was.
func TestNoneOfThemPanics(t *testing.T) {
	c, exprs := someTypes(), lackingExprs()
	for i, x := range lacking() {
		for j, y := range lacking() {
			var e classes.Env
			k := api.Class{Name: "X", Var: "a", Methods: []api.Method{{Name: "m", Type: x}, {Type: types.Fun(y, x)}}, Defaults: []api.Bind{{Body: exprs[(i+j)%len(exprs)]}, {Name: "m", Sig: api.Scheme{Vars: []string{"a"}, Context: []api.Pred{{Type: x}}, Type: y}}}, Pos: -1}
			err := e.Add(c, k)
			if err == nil {
				got, _ := e.Class("X")
				isClass(t, got, k)
				s, is := e.Scheme("")
				if !types.Same(s.Type, types.Fun(y, x)) || !is || s.Vars[0] != "a" {
					t.Fatalf("%v", s)
				}
				continue
			}
			at, ok := err.(*api.At)
			if !ok || at.Pos != -1 || at.Err != api.ErrScope && at.Err != api.ErrKind && at.Err != api.ErrClass || len(e.Classes()) != 0 {
				t.Fatalf("%v: %s", k, say(err))
			}
		}
	}
}
