package printer_test

import (
	"reflect"
	"slices"
	"testing"

	"paideia/api"
	"paideia/printer"
)

// fullExpr has each field of an expression's, an alternative's and a definition's filled, in one or two layers.
func fullExpr() api.Expr {
	sig := api.Scheme{
		Vars:    []string{"a", "b"},
		Context: []api.Pred{pred("C", tcon("T", tvar("a"), tvar("b"))), pred("D", tvar("b"))},
		Type:    tfun(tvar("a"), tall("c", tvar("c"))),
	}
	leaf := func(name string) api.Expr { return api.Expr{Kind: api.EVar, Pos: 4, Name: name, N: 5} }
	return api.Expr{
		Kind: api.ECase, Pos: 1, Name: "n", N: 2,
		L:     []api.Expr{leaf("x"), app(leaf("f"), leaf("y"))},
		Alts:  []api.Alt{{Con: "C", Vars: []string{"x", "_"}, Body: leaf("z"), Pos: 3}, {Con: "D", Vars: []string{"y"}, Body: leaf("y"), Pos: 5}},
		Binds: []api.Bind{{Name: "b", Signed: true, Sig: sig, Body: leaf("b"), Pos: 6}, {Name: "c", Signed: true, Sig: sig, Body: leaf("c"), Pos: 7}},
	}
}

// fullProgram has each field of each part filled.
func fullProgram() api.Program {
	binds := func() []api.Bind { return fullExpr().Binds }
	return api.Program{
		Datas: []api.Data{
			{Name: "T", Vars: []string{"a", "b"}, Cons: []api.Con{con("C", tvar("a"), tcon("T", tvar("b"))), con("D", tvar("b"))}, Deriving: []string{"Eq", "Ord"}, Pos: 8},
			{Name: "U", Vars: []string{"a"}, Cons: []api.Con{con("U", tvar("a"))}, Deriving: []string{"Eq"}, Pos: 9},
		},
		Classes: []api.Class{
			{Name: "C", Var: "a", Supers: []string{"D", "E"}, Methods: []api.Method{{Name: "m", Type: tfun(tvar("a"), tvar("a"))}, {Name: "n", Type: tvar("a")}}, Defaults: binds(), Pos: 10},
			{Name: "D", Var: "b", Supers: []string{"E"}, Methods: []api.Method{{Name: "d", Type: tvar("b")}}, Defaults: binds(), Pos: 11},
		},
		Instances: []api.Instance{
			{Class: "C", Con: "T", Vars: []string{"a", "b"}, Context: []api.Pred{pred("C", tvar("a")), pred("D", tvar("b"))}, Binds: binds(), Pos: 12},
			{Class: "D", Con: "U", Vars: []string{"a"}, Context: []api.Pred{pred("E", tvar("a"))}, Binds: binds(), Pos: 13},
		},
		Binds: binds(),
	}
}

// change is one field of a tree: one that tells a place or another one; do changes it, undo takes that back.
type change struct {
	path     string
	place    bool
	do, undo func()
}

// changes are all that can be changed in v at one field alone, the field being the last of path.
func changes(path string, v reflect.Value, place bool) (l []change) {
	old := reflect.New(v.Type()).Elem()
	old.Set(v)
	undo := func() { v.Set(old) }
	add := func(what string, do func()) {
		l = append(l, change{path + " " + what, place, do, undo})
	}
	switch v.Kind() {
	case reflect.Int, reflect.Int64:
		add("greater", func() { v.SetInt(old.Int() + 1) })
		add("below 0", func() { v.SetInt(-1 - old.Int()) })
	case reflect.String:
		add("longer", func() { v.SetString(old.String() + "x") })
		if old.Len() > 0 {
			add("none", func() { v.SetString("") })
		}
	case reflect.Bool:
		add("not", func() { v.SetBool(!old.Bool()) })
	case reflect.Struct:
		for i := range v.NumField() {
			name := v.Type().Field(i).Name
			l = append(l, changes(path+"."+name, v.Field(i), name == "Pos")...)
		}
	case reflect.Slice:
		for i := range v.Len() {
			l = append(l, changes(path+"[]", v.Index(i), place)...)
		}
		add("with one more", func() { v.Set(reflect.Append(old, reflect.Zero(v.Type().Elem()))) })
		if v.Len() > 0 {
			add("without the last", func() { v.Set(old.Slice(0, v.Len()-1)) })
			add("none", func() { v.SetZero() })
		}
		if v.Len() > 1 {
			add("without the first", func() { v.Set(old.Slice(1, v.Len())) })
		}
	default:
		panic("a kind that no tree has: " + v.Kind().String())
	}
	return l
}

// checkChanges asks of each field of b, which is as a is, that same hangs on it, but for places.
func checkChanges[T any](t *testing.T, a, b T, same func(a, b T) bool) {
	if !same(a, b) || !same(a, a) {
		t.Fatal("one tree twice is not the same")
	}
	of := changes("", reflect.ValueOf(&b).Elem(), false)
	if len(of) < 30 {
		t.Fatal("too few fields: ", len(of))
	}
	for _, c := range of {
		c.do()
		if same(a, b) != c.place || same(b, a) != c.place {
			t.Errorf("%s: %v", c.path, same(a, b))
		}
		c.undo()
		if !same(a, b) {
			t.Fatal(c.path, "stays changed")
		}
	}
}

func TestSameHangsOnEachField(t *testing.T) { checkChanges(t, fullExpr(), fullExpr(), printer.Same) }

func TestSameProgramHangsOnEachField(t *testing.T) {
	checkChanges(t, fullProgram(), fullProgram(), printer.SameProgram)
}

func TestSameButForPlaces(t *testing.T) {
	a, b := fullExpr(), fullExpr()
	p, q := fullProgram(), fullProgram()
	n := 0
	for _, c := range slices.Concat(changes("", reflect.ValueOf(&b).Elem(), false), changes("", reflect.ValueOf(&q).Elem(), false)) {
		if c.place {
			c.do()
			n++
		}
	}
	if n < 30 || !printer.Same(a, b) || !printer.Same(b, a) {
		t.Error("Same looks at places", n)
	}
	if !printer.SameProgram(p, q) || !printer.SameProgram(q, p) {
		t.Error("SameProgram looks at places")
	}
}

func TestSameOfLists(t *testing.T) {
	x, y := evar("x"), evar("y")
	if printer.Same(app(x, y), app(y, x)) {
		t.Error("the order of an application's parts")
	}
	if printer.Same(let(x, bind("a", x), bind("b", x)), let(x, bind("b", x), bind("a", x))) {
		t.Error("the order of definitions")
	}
	if printer.Same(of(x, alt("C", x), alt("D", x)), of(x, alt("D", x), alt("C", x))) {
		t.Error("the order of alternatives")
	}
	if !printer.Same(api.Expr{L: []api.Expr{}, Alts: []api.Alt{}, Binds: []api.Bind{}}, api.Expr{}) {
		t.Error("nil is an empty list")
	}
	empty := api.Program{Datas: []api.Data{}, Classes: []api.Class{}, Instances: []api.Instance{}, Binds: []api.Bind{}}
	if !printer.SameProgram(empty, api.Program{}) || !printer.SameProgram(api.Program{}, empty) {
		t.Error("nil is an empty list, in a program")
	}
	inner := api.Program{Datas: []api.Data{{Vars: []string{}, Cons: []api.Con{{Args: []api.Type{}}}, Deriving: []string{}}}, Classes: []api.Class{{Supers: []string{}, Methods: []api.Method{}, Defaults: []api.Bind{}}}, Instances: []api.Instance{{Vars: []string{}, Context: []api.Pred{}, Binds: []api.Bind{}}}}
	if !printer.SameProgram(inner, api.Program{Datas: []api.Data{{Cons: []api.Con{{}}}}, Classes: []api.Class{{}}, Instances: []api.Instance{{}}}) {
		t.Error("nil is an empty list, in a program's parts")
	}
}

// Trees whose texts are the same may still differ: Same is of trees.
func TestSameIsNotOfTexts(t *testing.T) {
	a := let(evar("x"), bind("f", evar("x")))
	b := let(evar("x"), api.Bind{Name: "f", Sig: api.Scheme{Type: tvar("a")}, Body: evar("x")})
	c := let(evar("x"), signed("f", api.Scheme{Type: tvar("a")}, evar("x")))
	d := let(evar("x"), signed("f", api.Scheme{Vars: []string{"a"}, Type: tvar("a")}, evar("x")))
	l := []api.Expr{a, b, c, d, evar("x"), {Kind: api.EVar, Name: "x", N: 1}, econ("x"), {}, {Kind: 9}, {Kind: -1}}
	for i, x := range l {
		for j, y := range l {
			if printer.Same(x, y) != (i == j) {
				t.Error(i, j)
			}
		}
	}
}
