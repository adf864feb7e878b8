package printer_test

import (
	"testing"

	"paideia/api"
	"paideia/printer"
)

func data(d api.Data) string { return printer.Program(api.Program{Datas: []api.Data{d}}) }

func class(c api.Class) string { return printer.Program(api.Program{Classes: []api.Class{c}}) }

func instance(i api.Instance) string {
	return printer.Program(api.Program{Instances: []api.Instance{i}})
}

func con(name string, args ...api.Type) api.Con { return api.Con{Name: name, Args: args} }

func TestDatas(t *testing.T) {
	is(t, data(api.Data{Name: "T", Cons: []api.Con{con("C")}}), "data T = C;\n")
	is(t, data(api.Data{Name: "T", Vars: []string{"a"}, Cons: []api.Con{con("C", tvar("a"))}}), "data T a = C a;\n")
	is(t, data(api.Data{Name: "T", Vars: []string{"a", "b"}, Cons: []api.Con{con("C"), con("D")}}), "data T a b = C | D;\n")
	is(t, data(api.Data{Name: "T", Cons: []api.Con{con("C"), con("D", tcon("T")), con("E", tcon("T"), tcon("U"))}}),
		"data T = C | D T | E T U;\n")
	for _, x := range standings() {
		for _, y := range standings() {
			is(t, data(api.Data{Name: "T", Cons: []api.Con{con("C", x.t, y.t), con("D", y.t)}}),
				"data T = C "+x.argument+" "+y.argument+" | D "+y.argument+";\n")
		}
	}
}

func TestDeriving(t *testing.T) {
	is(t, data(api.Data{Name: "T", Cons: []api.Con{con("C")}, Deriving: []string{"Eq"}}), "data T = C deriving (Eq);\n")
	is(t, data(api.Data{Name: "T", Vars: []string{"a"}, Cons: []api.Con{con("C", tvar("a")), con("D")}, Deriving: []string{"Eq", "Ord"}}),
		"data T a = C a | D deriving (Eq, Ord);\n")
	is(t, data(api.Data{Name: "T", Cons: []api.Con{con("C")}, Deriving: []string{"Show", "Eq", "Show"}}),
		"data T = C deriving (Show, Eq, Show);\n")
}

func TestClasses(t *testing.T) {
	m, n := api.Method{Name: "m", Type: tvar("a")}, api.Method{Name: "n", Type: tfun(tvar("a"), tcon("L", tvar("a")))}
	x, y := bind("m", evar("y")), bind("n", lam("x", evar("x")))
	is(t, class(api.Class{Name: "C", Var: "a"}), "class C a where { };\n")
	is(t, class(api.Class{Name: "C", Var: "a", Methods: []api.Method{m}}), "class C a where { m :: a };\n")
	is(t, class(api.Class{Name: "C", Var: "a", Methods: []api.Method{m, n}}), "class C a where { m :: a; n :: a -> L a };\n")
	is(t, class(api.Class{Name: "C", Var: "a", Defaults: []api.Bind{x}}), "class C a where { m = y };\n")
	is(t, class(api.Class{Name: "C", Var: "a", Defaults: []api.Bind{x, y}}), `class C a where { m = y; n = (\x -> x) };`+"\n")
	is(t, class(api.Class{Name: "C", Var: "a", Methods: []api.Method{m}, Defaults: []api.Bind{x}}),
		"class C a where { m :: a; m = y };\n")
	is(t, class(api.Class{Name: "C", Var: "a", Methods: []api.Method{n, m}, Defaults: []api.Bind{y, x}}),
		`class C a where { n :: a -> L a; m :: a; n = (\x -> x); m = y };`+"\n")
}

func TestSupers(t *testing.T) {
	is(t, class(api.Class{Name: "C", Var: "b", Supers: []string{"D"}}), "class D b => C b where { };\n")
	is(t, class(api.Class{Name: "C", Var: "b", Supers: []string{"D", "E"}}), "class (D b, E b) => C b where { };\n")
	is(t, class(api.Class{Name: "C", Var: "b", Supers: []string{"D", "E", "D"}, Defaults: []api.Bind{bind("m", number(1))}}),
		"class (D b, E b, D b) => C b where { m = 1 };\n")
}

func TestInstances(t *testing.T) {
	one := []api.Pred{pred("C", tvar("a"))}
	two := []api.Pred{pred("C", tvar("a")), pred("D", tvar("b"))}
	x, y := bind("m", evar("y")), signed("n", api.Scheme{Type: tvar("a")}, number(1))
	is(t, instance(api.Instance{Class: "C", Con: "T"}), "instance C T where { };\n")
	is(t, instance(api.Instance{Class: "C", Con: "T", Vars: []string{"a"}}), "instance C (T a) where { };\n")
	is(t, instance(api.Instance{Class: "C", Con: "T", Vars: []string{"a", "b"}}), "instance C (T a b) where { };\n")
	is(t, instance(api.Instance{Class: "C", Con: "T", Vars: []string{"a"}, Context: one}), "instance C a => C (T a) where { };\n")
	is(t, instance(api.Instance{Class: "C", Con: "T", Vars: []string{"a", "b"}, Context: two}), "instance (C a, D b) => C (T a b) where { };\n")
	is(t, instance(api.Instance{Class: "C", Con: "T", Binds: []api.Bind{x}}), "instance C T where { m = y };\n")
	is(t, instance(api.Instance{Class: "C", Con: "T", Binds: []api.Bind{x, x}}), "instance C T where { m = y; m = y };\n")
	is(t, instance(api.Instance{Class: "C", Con: "T", Vars: []string{"a"}, Context: one, Binds: []api.Bind{x, y}}),
		"instance C a => C (T a) where { m = y; n :: a; n = 1 };\n")
	for _, x := range standings() {
		is(t, instance(api.Instance{Class: "C", Con: "T", Context: []api.Pred{pred("D", x.t)}}),
			"instance D "+x.argument+" => C T where { };\n")
		is(t, instance(api.Instance{Class: "C", Con: "T", Context: []api.Pred{pred("D", x.t), pred("E", x.t), pred("D", tvar("a"))}}),
			"instance (D "+x.argument+", E "+x.argument+", D a) => C T where { };\n")
	}
}

func TestProgram(t *testing.T) {
	is(t, printer.Program(api.Program{}), "")
	x := bind("x", evar("y"))
	is(t, printer.Program(api.Program{Binds: []api.Bind{x}}), "x = y;\n")
	is(t, printer.Program(api.Program{Binds: []api.Bind{signed("x", api.Scheme{Type: tvar("a")}, number(2)), x}}), "x :: a; x = 2;\nx = y;\n")
	p := api.Program{
		Binds:     []api.Bind{x},
		Instances: []api.Instance{{Class: "C", Con: "T"}, {Class: "D", Con: "T"}},
		Classes:   []api.Class{{Name: "C", Var: "a"}, {Name: "D", Var: "a"}},
		Datas:     []api.Data{{Name: "T", Cons: []api.Con{con("C")}}, {Name: "U", Cons: []api.Con{con("U")}}},
	}
	is(t, printer.Program(p), "data T = C;\ndata U = U;\nclass C a where { };\nclass D a where { };\n"+
		"instance C T where { };\ninstance D T where { };\nx = y;\n")
}
