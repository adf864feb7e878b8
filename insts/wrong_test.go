package insts_test

import (
	"math"
	"slices"
	"testing"

	"paideia/api"
	"paideia/classes"
	"paideia/cons"
	"paideia/insts"
	"paideia/types"
)

// isAdded adds instances made by hand to known.
func isAdded(t *testing.T, want string, l ...api.Instance) *insts.Env {
	t.Helper()
	e := known()
	before := tell(e)
	if got := say(add(e, l...)); got != want {
		t.Errorf("%v: %s; want %s", l, got, want)
	}
	if want != "nothing" && tell(e) != before {
		t.Errorf("%v: behind an error it tells\n%s; before that\n%s", l, tell(e), before)
	}
	return e
}

func TestZeroValue(t *testing.T) {
	var e insts.Env
	isNone(t, &e, "", "")
	isNone(t, &e, "A", "Int")
	if n := count(&e); n > 0 {
		t.Error(n)
	}
	for text, want := range map[string]string{"instance Q Int where { }": "0: not a class, or not an instance", "instance A Q where { }": "0: a name that is nobody's", "instance A L where { }": "0: a type with other arguments", "instance A U where { }; instance A U where { }": "24: a name twice"} {
		isSaid(t, add(&e, readInstances(text)...), want)
	}
	if text := tell(&e); text != tell(&insts.Env{}) {
		t.Error(text)
	}
	// nor have the zero values of cons.Env and classes.Env anything but Int and Char
	for text, want := range map[string]string{"instance A Int where { }": "0: not a class, or not an instance", "instance Int Char where { }": "0: not a class, or not an instance", "instance A U where { }": "0: not a class, or not an instance"} {
		isSaid(t, e.Add(&cons.Env{}, &classes.Env{}, readInstances(text)...), want)
	}
	isSaid(t, e.Add(&cons.Env{}, classesOf(base), readInstances("instance A U where { }")...), "0: a name that is nobody's")
	isSaid(t, e.Add(&cons.Env{}, classesOf(base), readInstances("instance A Int where { }; instance D Char where { }")...), "nothing")
	if keys(&e) != "A:Int D:Char " {
		t.Error(keys(&e))
	}
}

// nil and the empty list are the same, at each place.
func TestEmptyLists(t *testing.T) {
	variable := api.Type{Kind: api.TVar, Name: "a", Args: []api.Type{}}
	full := []api.Instance{
		{Class: "A", Con: "U", Vars: []string{}, Context: []api.Pred{}, Binds: []api.Bind{}},
		{Class: "B", Con: "L", Vars: []string{"a"}, Context: []api.Pred{{Class: "A", Type: variable}}, Binds: []api.Bind{{Name: "r", Sig: api.Scheme{Vars: []string{}, Context: []api.Pred{}}, Body: api.Expr{L: []api.Expr{}, Alts: []api.Alt{}, Binds: []api.Bind{}}}}},
	}
	none := []api.Instance{{Class: "A", Con: "U"}, {Class: "B", Con: "L", Vars: []string{"a"}, Context: []api.Pred{{Class: "A", Type: types.Var("a")}}, Binds: []api.Bind{{Name: "r"}}}}
	if got, want := tell(isAdded(t, "nothing", full...)), tell(isAdded(t, "nothing", none...)); got != want {
		t.Errorf("%s; want %s", got, want)
	}
	for _, vars := range [][]string{nil, {}} {
		isAdded(t, "7: a type with other arguments", api.Instance{Class: "A", Con: "P", Vars: vars, Pos: 7})
		isAdded(t, "7: a name that is nobody's", api.Instance{Class: "A", Con: "U", Vars: vars, Context: []api.Pred{{Class: "A", Type: variable}}, Pos: 7})
		isAdded(t, "nothing", api.Instance{Class: "A", Con: "U", Vars: vars, Pos: 7})
	}
}

// The empty name is one like others: nobody's, until it is defined.
func TestEmptyNames(t *testing.T) {
	isAdded(t, "4: not a class, or not an instance", api.Instance{Pos: 4})
	isAdded(t, "4: not a class, or not an instance", api.Instance{Con: "U", Pos: 4})
	isAdded(t, "4: a name that is nobody's", api.Instance{Class: "A", Pos: 4})
	isAdded(t, "4: a name twice", api.Instance{Class: "A", Con: "P", Vars: []string{"", ""}, Pos: 4})
	isAdded(t, "4: not a class, or not an instance", api.Instance{Class: "B", Con: "L", Vars: []string{""}, Context: []api.Pred{{}}, Pos: 4})
	isAdded(t, "4: a name that is nobody's", api.Instance{Class: "B", Con: "L", Vars: []string{""}, Context: []api.Pred{{Class: "A"}}, Pos: 4})
	isAdded(t, "4: a name that is nobody's", api.Instance{Class: "B", Con: "L", Vars: []string{"a"}, Context: []api.Pred{{Class: "A", Type: types.Var("")}}, Pos: 4})
	isAdded(t, "4: not a class, or not an instance", api.Instance{Class: "B", Con: "L", Vars: []string{"a"}, Binds: []api.Bind{{}}, Pos: 4})
	isAdded(t, "nothing", api.Instance{Class: "B", Con: "L", Vars: []string{""}, Context: []api.Pred{{Class: "A", Type: types.Var("")}}, Pos: 4})

	c, k := typesOf(base), classesOf(base)
	if c.Add(api.Data{Vars: []string{""}}) != nil || k.Add(c, api.Class{Methods: []api.Method{{Type: types.Var("")}}}) != nil {
		t.Fatal("nothing was added")
	}
	want := api.Instance{Vars: []string{""}, Context: []api.Pred{{Type: types.Var("")}}, Binds: []api.Bind{{}}, Pos: 9}
	var e insts.Env
	isSaid(t, e.Add(c, k, want), "nothing")
	if i, is := e.Find("", ""); !is || !areSame(i, want) {
		t.Error(i, is)
	}
	isNone(t, &e, "", "U")
	isSaid(t, e.Add(c, k, want), "9: a name twice")
	want.Con, want.Vars, want.Context, want.Binds = "U", nil, nil, append(want.Binds, api.Bind{})
	isSaid(t, e.Add(c, k, want), "9: a name twice")
	isSaid(t, e.Add(c, k, api.Instance{Class: "A", Vars: []string{"a"}}, api.Instance{Con: "U"}), "nothing")
	if keys(&e) != ": A: :U " {
		t.Error(keys(&e))
	}
}

func oddNames() []string {
	return []string{"", "\xff", "\x80", "\x00", "é", "a b", "A B", "a", "_", "(+)", "=", "?1", "class", ":", "A ", "aA", "A\x00", " p", "A:", ":A"}
}

// Names are names, whatever their bytes are; each is itself alone.
func TestOddNames(t *testing.T) {
	var c cons.Env
	var k classes.Env
	var e insts.Env
	for _, name := range oddNames() {
		method := api.Method{Name: name, Type: types.Var(name)}
		if c.Add(api.Data{Name: name, Vars: []string{name}}) != nil || k.Add(&c, api.Class{Name: name, Var: name, Methods: []api.Method{method}}) != nil {
			t.Fatalf("%q", name)
		}
	}
	of := func(class, con string) api.Instance {
		return api.Instance{Class: class, Con: con, Vars: []string{class}, Context: []api.Pred{{Class: con, Type: types.Var(class)}}, Binds: []api.Bind{{Name: class}}, Pos: len(class) - len(con)}
	}
	var all []api.Instance
	for _, class := range oddNames() {
		for _, con := range oddNames() {
			isNone(t, &e, class, con)
			wrong := of(class, con)
			wrong.Context[0].Type.Name += "?"
			isSaid(t, e.Add(&c, &k, wrong), say(&api.At{Pos: wrong.Pos, Err: api.ErrScope}))
			wrong = of(class, con)
			wrong.Binds[0].Name += "?"
			isSaid(t, e.Add(&c, &k, wrong), say(&api.At{Pos: wrong.Pos, Err: api.ErrClass}))
			isSaid(t, e.Add(&c, &k, of(class, con)), "nothing")
			isSaid(t, e.Add(&c, &k, of(class, con)), say(&api.At{Pos: wrong.Pos, Err: api.ErrTwice}))
			all = append(all, of(class, con))
			if i, is := e.Find(class, con); !is || !areSame(i, of(class, con)) {
				t.Errorf("%q, %q: %v, %t", class, con, i, is)
			}
		}
	}
	areInstances(t, slices.Collect(e.All()), all)
	long := string(slices.Repeat([]byte("T"), 3*api.MaxName)) // beyond what a parser takes
	isSaid(t, c.Add(api.Data{Name: long, Vars: []string{long, long[1:]}}), "nothing")
	isSaid(t, k.Add(&c, api.Class{Name: long}), "nothing")
	isSaid(t, e.Add(&c, &k, api.Instance{Class: long, Con: long, Vars: []string{long, long[2:]}, Context: []api.Pred{{Class: long, Type: types.Var(long[1:])}}, Pos: 3}), "3: a name that is nobody's")
	isSaid(t, e.Add(&c, &k, api.Instance{Class: long, Con: long, Vars: []string{long, long[1:]}, Context: []api.Pred{{Class: long, Type: types.Var(long[1:])}}}), "nothing")
	isNone(t, &e, long, long[1:])
}

// A place is told as it is, whatever it is.
func TestOddPlaces(t *testing.T) {
	for _, pos := range []int{math.MinInt, -1, 0, 1, math.MaxInt} {
		for n := range faults() {
			i := amiss("K", 1<<n, pos)
			var e insts.Env
			at, ok := e.Add(typesOf(orderText), classesOf(orderText), api.Instance{Class: "A", Con: "U", Pos: 5}, i, api.Instance{Class: "Q", Pos: 6}).(*api.At)
			if !ok || at.Pos != pos || at.Err != faults()[n].err {
				t.Errorf("%d: %+v; want %d", n, at, pos)
			}
		}
		e := isAdded(t, "nothing", api.Instance{Class: "A", Con: "U", Pos: pos})
		if i, _ := e.Find("A", "U"); i.Pos != pos {
			t.Error(i)
		}
		for i := range e.All() {
			if i.Class+i.Con == "AU" && i.Pos != pos {
				t.Error(i)
			}
		}
	}
}

// A Bind that has a signature, as no parser makes one in an instance, is told as it came; neither that nor the expression is looked at by anyone here.
func TestSignedBinds(t *testing.T) {
	i := api.Instance{Class: "A", Con: "U", Binds: []api.Bind{{Name: "q", Signed: true, Sig: api.Scheme{Vars: []string{"b", "b"}, Context: []api.Pred{{Class: "Q", Type: types.Con("L", types.Con("T", types.Var("z")))}}, Type: types.Con("L")}, Body: api.Expr{Kind: 99, Pos: -3, Name: "n", N: 8}, Pos: -4}}}
	e := isAdded(t, "nothing", i)
	if got, is := e.Find("A", "U"); !is || !areSame(got, i) {
		t.Error(got)
	}
}

// A variable that has arguments, as no parser makes one, is a variable, and is told as it came.
func TestVariablesWithArguments(t *testing.T) {
	odd := api.Type{Kind: api.TVar, Name: "a", Args: []api.Type{types.Con("Q", types.Var("z")), {}}}
	i := withContext(api.Pred{Class: "A", Type: odd})
	e := isAdded(t, "nothing", i)
	if got, is := e.Find("B", "L"); !is || !areSame(got, i) {
		t.Error(got)
	}
	odd.Name = "z"
	isAdded(t, "8: a name that is nobody's", withContext(api.Pred{Class: "A", Type: odd}))
}

// lacking are types of each kind, and of kinds that are none, with as many arguments as none, one, two, three.
func lacking() (l []api.Type) {
	for _, kind := range []int{math.MinInt, -1, 0, api.TVar, api.TCon, api.TFun, api.TAll, 5, math.MaxInt} {
		for _, name := range []string{"", "a", "b", "Int", "L", "Q"} {
			for n := range 4 {
				l = append(l, api.Type{Kind: kind, Name: name, Args: []api.Type{types.Var("a"), {}, types.Con("L")}[:n:n]})
			}
		}
	}
	return l
}

// lackingExprs are expressions of each kind, and of kinds that are none, that have all parts, or none.
func lackingExprs() (l []api.Expr) {
	for kind := -1; kind <= api.ECase+1; kind++ {
		none := api.Expr{Kind: kind}
		l = append(l, none, api.Expr{Kind: kind, Pos: -1, Name: "x", N: -1, L: []api.Expr{none, {}, none}, Alts: []api.Alt{{}, {Con: "N", Vars: []string{"", "x"}, Body: none}}, Binds: []api.Bind{{}, {Name: "x", Signed: true, Body: none}}})
	}
	return l
}

// No call panics, whatever is lacking or too much, and what was added is told as it was.
func TestNoneOfThemPanics(t *testing.T) {
	c, k, exprs := typesOf(base), classesOf(base), lackingExprs()
	for n, x := range lacking() {
		for m, y := range lacking() {
			var e insts.Env
			i := withContext(api.Pred{Class: "A", Type: x}, api.Pred{Class: "D", Type: y})
			i.Binds = []api.Bind{{Name: "r", Body: exprs[(n+m)%len(exprs)]}, {Name: "s", Sig: api.Scheme{Vars: []string{"a"}, Context: []api.Pred{{Type: x}}, Type: y}}}
			err, want := e.Add(c, k, i), "nothing"
			if x.Kind != api.TVar || x.Name != "a" || y.Kind != api.TVar || y.Name != "a" {
				want = "8: a name that is nobody's"
			}
			if say(err) != want {
				t.Fatalf("%v: %s; want %s", i, say(err), want)
			}
			got, is := e.Find("B", "L")
			if is != (err == nil) || is && !areSame(got, i) {
				t.Fatalf("%v, %t; want %v", got, is, i)
			}
		}
	}
}
