package cons_test

import (
	"strconv"
	"testing"

	"paideia/api"
	"paideia/cons"
	"paideia/types"
)

// Each call here ends, and soon: none goes through all that is there for each name.

const many = 1 << 16

func numbered(name string, i int) string { return name + strconv.Itoa(i) }

// manyDatas each need the next one, and the one ahead; the last one needs the first.
func manyDatas() []api.Data {
	l := make([]api.Data, many)
	for i := range l {
		next, ahead := types.Con(numbered("T", (i+1)%many), types.Var("a")), types.Con(numbered("T", (i+many-1)%many), types.Con("Int"))
		l[i] = api.Data{Name: numbered("T", i), Vars: []string{"a"}, Cons: []api.Con{{Name: numbered("K", i), Args: []api.Type{next}}, {Name: numbered("L", i), Args: []api.Type{ahead, types.Var("a")}}}, Pos: i}
	}
	return l
}

func isThere(t *testing.T, e *cons.Env) {
	t.Helper()
	for i := range many {
		n, is := e.Arity(numbered("T", i))
		typ, place, isCon := e.Place(numbered("L", i))
		d, isData := e.Data(numbered("T", i))
		s, isScheme := e.Scheme(numbered("K", i))
		if n != 1 || !is || typ != numbered("T", i) || place != 1 || !isCon || d.Pos != i || !isData || len(s.Vars) != 1 || !isScheme {
			t.Fatal(i, n, typ, place, d, s)
		}
	}
	if l := e.Datas(); len(l) != many || l[many/3].Name != numbered("T", many/3) {
		t.Error(len(l))
	}
}

func TestManyTypes(t *testing.T) {
	var e cons.Env
	l := manyDatas()
	if err := e.Add(l...); err != nil {
		t.Fatal(say(err))
	}
	isThere(t, &e)
	for i := range l {
		if err := e.Add(api.Data{Name: "New", Cons: []api.Con{{Name: "New"}, {Name: numbered("L", i)}}, Pos: i}); say(err) != strconv.Itoa(i)+": a name twice" {
			t.Fatal(say(err))
		}
		if err := e.Kind(types.Con(numbered("T", i))); err != api.ErrKind {
			t.Fatal(err)
		}
	}
}

// What is amiss with the last of many.
func TestManyTypesAmiss(t *testing.T) {
	var e cons.Env
	for range 3 {
		l := manyDatas()
		l[many-1].Cons[1].Name = "K7"
		if err := e.Add(l...); say(err) != "65535: a name twice" {
			t.Error(say(err))
		}
		l[many-1].Cons[1].Name, l[many-1].Cons[1].Args[1].Name = "L", "b"
		if err := e.Add(l...); say(err) != "65535: a name that is nobody's" {
			t.Error(say(err))
		}
		l[many-1].Vars = nil
		if err := e.Add(l...); say(err) != "0: a type with other arguments" {
			t.Error(say(err))
		}
	}
	if len(e.Datas()) != 0 {
		t.Error("something was added")
	}
}

// One by one, each with those ahead of it there.
func TestManyAdds(t *testing.T) {
	var e cons.Env
	for i, d := range manyDatas() {
		d.Cons[0].Args = nil
		if i == 0 {
			d.Cons[1].Args = nil
		}
		if err := e.Add(d); err != nil {
			t.Fatal(i, say(err))
		}
		if err := e.Add(api.Data{Name: "New", Cons: []api.Con{{Name: "New", Args: []api.Type{types.Con(numbered("T", i+1))}}}}); say(err) != "0: a name that is nobody's" {
			t.Fatal(i, say(err))
		}
	}
	isThere(t, &e)
}

func TestManyConstructors(t *testing.T) {
	d := api.Data{Name: "T", Vars: []string{"a"}, Pos: 6}
	for i := range many {
		d.Cons = append(d.Cons, api.Con{Name: numbered("K", i), Args: []api.Type{types.Var("a"), types.Con("T", types.Con("Int"))}})
	}
	var e cons.Env
	if err := e.Add(d); err != nil {
		t.Fatal(say(err))
	}
	for i := range many {
		typ, place, is := e.Place(numbered("K", i))
		s, isScheme := e.Scheme(numbered("K", i))
		if typ != "T" || place != i || !is || s.Type.Kind != api.TFun || !isScheme {
			t.Fatal(i, typ, place, s)
		}
	}
	d.Name, d.Cons[many-1].Name = "V", "K0"
	if err := new(cons.Env).Add(d); say(err) != "6: a name twice" {
		t.Error(say(err))
	}
}

// Many variables, and as many arguments, of each of which it is asked whether it is one of these.
func TestManyVariables(t *testing.T) {
	d := api.Data{Name: "T", Pos: 6}
	var args []api.Type
	for i := range many {
		d.Vars = append(d.Vars, numbered("v", i))
		args = append(args, types.Var(numbered("v", many-1-i)))
	}
	d.Cons = []api.Con{{Name: "K", Args: args}, {Name: "L", Args: []api.Type{types.Con("T", args...)}}}
	var e cons.Env
	if err := e.Add(d); err != nil {
		t.Fatal(say(err))
	}
	if n, is := e.Arity("T"); n != many || !is {
		t.Error(n)
	}
	s, _ := e.Scheme("K")
	l, end := types.Parts(s.Type)
	if len(l) != many || l[0].Name != "v65535" || len(end.Args) != many || end.Args[0].Name != "v0" || len(s.Vars) != many {
		t.Error(len(l), len(end.Args))
	}
	if err := e.Kind(types.Con("T", args[1:]...)); err != api.ErrKind {
		t.Error(err)
	}
	d.Vars[0] = "w"
	if err := new(cons.Env).Add(d); say(err) != "6: a name that is nobody's" {
		t.Error(say(err))
	}
}

// Types of the deepest that the document speaks of; what is amiss stands in the innermost of them.
func TestDeepTypes(t *testing.T) {
	for in, want := range map[string]string{"a": "nothing", "Int": "nothing", "Int a": "8: a type with other arguments", "Q": "8: a name that is nobody's", "b": "8: a name that is nobody's"} {
		right, left, inner := readType(in), readType(in), readType(in)
		for range many - 6 {
			right, left, inner = api.Type{Kind: api.TFun, Args: []api.Type{types.Var("a"), right}}, api.Type{Kind: api.TFun, Args: []api.Type{left, types.Var("a")}}, api.Type{Kind: api.TCon, Name: "L", Args: []api.Type{inner}}
		}
		for _, deep := range []api.Type{right, left, inner} {
			e := isAddedDeep(t, want, of(deep, "a"))
			kind := "nothing"
			if err := e.Kind(deep); err != nil {
				kind = "8: " + err.Error()
			}
			if kind != want && in != "b" {
				t.Errorf("%s: %s", in, kind)
			}
		}
	}
}

func isAddedDeep(t *testing.T, want string, d api.Data) *cons.Env {
	t.Helper()
	e := known()
	if got := say(e.Add(d)); got != want {
		t.Errorf("%s; want %s", got, want)
	}
	if s, is := e.Scheme("X"); is != (want == "nothing") || is && !types.Same(s.Type.Args[0], d.Cons[0].Args[0]) {
		t.Error(is)
	}
	if l := e.Datas(); want == "nothing" && types.Size(l[3].Cons[0].Args[0]) != types.Size(d.Cons[0].Args[0]) {
		t.Error(len(l))
	}
	return e
}
