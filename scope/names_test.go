package scope_test

import (
	"testing"

	"paideia/api"
	"paideia/scope"
)

// areDefined asks for what a text's program defines.
func areDefined(t *testing.T, text string, vars, cons []string) {
	t.Helper()
	gotVars, gotCons := scope.Names(readProgram(text))
	areNames(t, gotVars, vars...)
	areNames(t, gotCons, cons...)
}

func TestNamesOfNothing(t *testing.T) {
	areDefined(t, "", nil, nil)
	areDefined(t, ";;", nil, nil)
	areDefined(t, "class C a where { }", nil, nil)
	areDefined(t, "instance C T where { }", nil, nil)
}

func TestNames(t *testing.T) {
	areDefined(t, "x = 1", []string{"x"}, nil)
	areDefined(t, "z = x; x y = z", []string{"z", "x"}, nil)
	areDefined(t, "(+) = f; f :: a; f = (+)", []string{"+", "f"}, nil)
	areDefined(t, "data T = A", nil, []string{"A"})
	areDefined(t, "data T a = C a B | B (D a); data U = U | A deriving (Eq, Ord)", nil, []string{"C", "B", "U", "A"})
	areDefined(t, "class C a where { n :: a; m :: a -> b }", []string{"n", "m"}, nil)
	areDefined(t, "class C a where { n :: a; (*) :: a }; class B a => D a where { m :: a; l :: a }", []string{"n", "*", "m", "l"}, nil)
}

// Methods stand ahead of definitions, wherever they stand in the text.
func TestNamesMethodsFirst(t *testing.T) {
	areDefined(t, "z = 1; class C a where { n :: a }; y = 2; data T = B | A; class D a where { m :: a }; x = 3; data U = D | C", []string{"n", "m", "z", "y", "x"}, []string{"B", "A", "D", "C"})
}

// What a class or an instance has for its methods, and what is bound within, the program doesn't define.
func TestNamesOfTheProgramAlone(t *testing.T) {
	areDefined(t, "class C a where { d = 1; m :: a; m = 2 }; instance C T where { i = 1; m = 2 }", []string{"m"}, nil)
	areDefined(t, "f x = let { y = 1 } in case y of { Just z -> z; w -> C w }", []string{"f"}, nil)
}

// Names doesn't ask whether they are apart: that is Check's.
func TestNamesTwice(t *testing.T) {
	areDefined(t, "x = 1; x = 2; class C a where { x :: a; x :: a }; class C a where { x :: a }; data T = A | A; data T = A", []string{"x", "x", "x", "x", "x"}, []string{"A", "A", "A"})
}

func TestNamesOfNil(t *testing.T) {
	for _, p := range []api.Program{
		{},
		{Datas: []api.Data{}, Classes: []api.Class{}, Instances: []api.Instance{}, Binds: []api.Bind{}},
		{Datas: []api.Data{{}, {Cons: []api.Con{}}}, Classes: []api.Class{{}, {Methods: []api.Method{}}}, Instances: []api.Instance{{}}},
	} {
		vars, cons := scope.Names(p)
		areNames(t, vars)
		areNames(t, cons)
	}
	vars, cons := scope.Names(api.Program{Datas: []api.Data{{Cons: make([]api.Con, 2)}}, Classes: []api.Class{{Methods: make([]api.Method, 1)}}, Binds: make([]api.Bind, 2)})
	areNames(t, vars, "", "", "")
	areNames(t, cons, "", "")
}
