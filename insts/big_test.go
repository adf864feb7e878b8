package insts_test

import (
	"slices"
	"strconv"
	"testing"

	"paideia/api"
	"paideia/classes"
	"paideia/cons"
	"paideia/insts"
	"paideia/types"
)

// Each call here ends, and soon: none goes through all that is there for each name.

const many = 1 << 16

func numbered(name string, i int) string { return name + strconv.Itoa(i) }

// plenty are as many types of one argument, and as many classes of two methods.
func plenty(t *testing.T, n int) (*cons.Env, *classes.Env) {
	t.Helper()
	var c cons.Env
	var k classes.Env
	var datas []api.Data
	var all []api.Class
	for i := range n {
		datas = append(datas, api.Data{Name: numbered("T", i), Vars: []string{"a"}})
		all = append(all, api.Class{Name: numbered("C", i), Var: "a", Methods: []api.Method{{Name: numbered("m", i), Type: types.Var("a")}, {Name: numbered("n", i), Type: types.Var("a")}}})
	}
	isSaid(t, c.Add(datas...), "nothing")
	isSaid(t, k.Add(&c, all...), "nothing")
	return &c, &k
}

// numberedInstance is one of a class of plenty, for a type of it.
func numberedInstance(class, con, pos int) api.Instance {
	return api.Instance{Class: numbered("C", class), Con: numbered("T", con), Vars: []string{"a"}, Context: []api.Pred{{Class: numbered("C", con), Type: types.Var("a")}}, Binds: []api.Bind{{Name: numbered("n", class)}, {Name: numbered("m", class)}}, Pos: pos}
}

// areMany asks for each instance of a list, and for all of them.
func areMany(t *testing.T, e *insts.Env, l []api.Instance) {
	t.Helper()
	for _, want := range l {
		if i, is := e.Find(want.Class, want.Con); !is || i.Pos != want.Pos || i.Class != want.Class || i.Con != want.Con {
			t.Fatal(i, is, want)
		}
	}
	n := 0
	for i := range e.All() {
		if i.Pos != l[n].Pos || i.Class != l[n].Class || i.Con != l[n].Con || i.Binds[0].Name != l[n].Binds[0].Name {
			t.Fatal(i, l[n])
		}
		n++
	}
	if n != len(l) {
		t.Error(n)
	}
}

// Each of 256 classes for each of 256 types, in one row, and in as many.
func TestManyInstances(t *testing.T) {
	c, k := plenty(t, 256)
	var l []api.Instance
	for class := range 256 {
		for con := range 256 {
			l = append(l, numberedInstance(class, 255-con, len(l)))
		}
	}
	var once, often insts.Env
	isSaid(t, once.Add(c, k, l...), "nothing")
	areMany(t, &once, l)
	for _, i := range l {
		isSaid(t, often.Add(c, k, i), "nothing")
	}
	areMany(t, &often, l)
	for _, i := range l {
		if err := once.Add(c, k, i); say(err) != strconv.Itoa(i.Pos)+": a name twice" {
			t.Fatal(say(err))
		}
	}
	isNone(t, &once, "C0", "T256")
	isNone(t, &once, "C256", "T0")
}

// As many classes and types as instances; what is amiss with the last of them.
func TestLongRow(t *testing.T) {
	c, k := plenty(t, many)
	var l []api.Instance
	for i := range many {
		l = append(l, numberedInstance(i, many-1-i, i))
	}
	var e insts.Env
	last := &l[many-1]
	for range 2 {
		last.Binds[1].Name = "n65535"
		isSaid(t, e.Add(c, k, l...), "65535: a name twice")
		last.Binds[1].Name = "n7"
		isSaid(t, e.Add(c, k, l...), "65535: not a class, or not an instance")
		last.Context[0].Type = types.Var("b")
		isSaid(t, e.Add(c, k, l...), "65535: a name that is nobody's")
		last.Context[0].Class = "C65536"
		isSaid(t, e.Add(c, k, l...), "65535: not a class, or not an instance")
		*last = numberedInstance(3, many-1-3, many-1)
		isSaid(t, e.Add(c, k, l...), "65535: a name twice")
		last.Vars = nil
		isSaid(t, e.Add(c, k, l...), "65535: a type with other arguments")
		last.Con = "T65536"
		isSaid(t, e.Add(c, k, l...), "65535: a name that is nobody's")
		*last = numberedInstance(many-1, 0, many-1)
	}
	if count(&e) != 0 {
		t.Error("something was added")
	}
	isSaid(t, e.Add(c, k, l...), "nothing")
	areMany(t, &e, l)
}

// A great class in many instances and Contexts of one row: it is not gone through for each.
func TestGreatClass(t *testing.T) {
	var c cons.Env
	var k classes.Env
	great := api.Class{Name: "C", Var: "a"}
	for i := range many {
		great.Methods = append(great.Methods, api.Method{Name: numbered("m", i), Type: types.Var("a")})
		great.Defaults = append(great.Defaults, api.Bind{Name: numbered("m", i)})
	}
	isSaid(t, k.Add(&c, great), "nothing")
	var l []api.Instance
	for i := range many {
		isSaid(t, c.Add(api.Data{Name: numbered("T", i), Vars: []string{"a"}}), "nothing")
		l = append(l, api.Instance{Class: "C", Con: numbered("T", i), Vars: []string{"a"}, Context: []api.Pred{{Class: "C", Type: types.Var("a")}, {Class: "C", Type: types.Var("a")}}, Binds: []api.Bind{{Name: numbered("m", i)}}, Pos: i})
	}
	l[7].Binds = slices.Clone(great.Defaults)
	var e insts.Env
	isSaid(t, e.Add(&c, &k, l...), "nothing")
	areMany(t, &e, l)
	if i, is := e.Find("C", "T7"); len(i.Binds) != many || i.Binds[many-1].Name != "m65535" || !is {
		t.Error(len(i.Binds))
	}
	one := api.Instance{Class: "C", Con: "Int", Binds: slices.Clone(great.Defaults), Pos: 3}
	one.Binds[many-1].Name = "m0"
	isSaid(t, e.Add(&c, &k, one), "3: a name twice")
	one.Binds[many-1].Name = "m65536"
	isSaid(t, e.Add(&c, &k, one), "3: not a class, or not an instance")
}

// A type of many variables, all of them in the Context, and again.
func TestManyVariables(t *testing.T) {
	i := api.Instance{Class: "A", Con: "T", Pos: 6}
	for n := range many {
		i.Vars = append(i.Vars, numbered("v", n))
		i.Context = append(i.Context, api.Pred{Class: "B", Type: types.Var(numbered("v", many-1-n))}, api.Pred{Class: "D", Type: types.Var(numbered("v", n))})
	}
	c, k := typesOf(base), classesOf(base)
	isSaid(t, c.Add(api.Data{Name: "T", Vars: i.Vars}), "nothing")
	var e insts.Env
	i.Vars[many-1] = "v0"
	isSaid(t, e.Add(c, k, i), "6: a name twice")
	i.Vars[many-1] = "v65536"
	isSaid(t, e.Add(c, k, i), "6: a name that is nobody's")
	i.Vars = i.Vars[:many-1]
	isSaid(t, e.Add(c, k, i), "6: a type with other arguments")
	i.Vars = append(i.Vars, "v65535")
	i.Context[2*many-1].Class = "Q"
	isSaid(t, e.Add(c, k, i), "6: not a class, or not an instance")
	i.Context[2*many-1].Class = "A"
	isSaid(t, e.Add(c, k, i), "nothing")
	if got, is := e.Find("A", "T"); !is || !areSame(got, i) {
		t.Error(is)
	}
}

// Binds' expressions of the deepest that the document speaks of.
func TestDeepBinds(t *testing.T) {
	last := api.Expr{Kind: api.EInt, N: 7}
	applied, cased, let := last, last, last
	for range many - 6 {
		applied, cased, let = api.Expr{Kind: api.EApp, L: []api.Expr{applied, last}}, api.Expr{Kind: api.ECase, L: []api.Expr{last}, Alts: []api.Alt{{Body: cased}}}, api.Expr{Kind: api.ELet, L: []api.Expr{last}, Binds: []api.Bind{{Body: let}}}
	}
	for _, deep := range []api.Expr{applied, cased, let} {
		e := isAddedDeep(t, api.Instance{Class: "A", Con: "U", Binds: []api.Bind{{Name: "q", Body: deep}}})
		i, _ := e.Find("A", "U")
		if n := depth(i.Binds[0].Body); n != many-6 {
			t.Error(n)
		}
		for i := range e.All() {
			if i.Con == "U" && i.Class == "A" && depth(i.Binds[0].Body) != many-6 {
				t.Error(depth(i.Binds[0].Body))
			}
		}
	}
}

func isAddedDeep(t *testing.T, i api.Instance) *insts.Env {
	t.Helper()
	e := known()
	isSaid(t, add(e, i), "nothing")
	return e
}

// depth tells how often an expression of the ones above is nested.
func depth(e api.Expr) (n int) {
	for ; e.Kind != api.EInt; n++ {
		switch e.Kind {
		case api.EApp:
			e = e.L[0]
		case api.ECase:
			e = e.Alts[0].Body
		case api.ELet:
			e = e.Binds[0].Body
		}
	}
	return n
}

// A type in a Context as deep as the document speaks of is no variable, and a name as long as all that may be is one like others.
func TestDeepAndLong(t *testing.T) {
	deep := types.Var("a")
	for range many - 6 {
		deep = api.Type{Kind: api.TCon, Name: "L", Args: []api.Type{deep}}
	}
	isSaid(t, add(known(), withContext(api.Pred{Class: "A", Type: deep})), "8: a name that is nobody's")
	long := string(slices.Repeat([]byte("a"), 1<<24))
	i := withContext(api.Pred{Class: "A", Type: types.Var(long)})
	i.Vars = []string{long}
	isSaid(t, add(known(), i), "nothing")
	i.Vars = []string{long[1:]}
	isSaid(t, add(known(), i), "8: a name that is nobody's")
	if key := insts.Key(long, long); len(key) != 2*len(long)+1 || key[len(long)] != ':' {
		t.Error(len(key))
	}
}
