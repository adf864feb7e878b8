package parser_test

import (
	"strings"
	"testing"

	"paideia/api"
)

func TestDatas(t *testing.T) {
	programs.checkTree(t, " data T = T", api.Program{Datas: []api.Data{{Name: "T", Cons: []api.Con{{Name: "T"}}, Pos: 1}}})
	programs.checkTree(t, "data T a b = C a (T b) U | D | E (a -> b) deriving (Eq, Ord); data U = U deriving Show", api.Program{Datas: []api.Data{
		{Name: "T", Vars: []string{"a", "b"}, Cons: []api.Con{
			{Name: "C", Args: []api.Type{tvar("a"), tcon("T", tvar("b")), tcon("U")}},
			{Name: "D"},
			{Name: "E", Args: []api.Type{tfun(tvar("a"), tvar("b"))}},
		}, Deriving: []string{"Eq", "Ord"}},
		{Name: "U", Cons: []api.Con{{Name: "U"}}, Deriving: []string{"Show"}, Pos: 62},
	}})
	programs.checkText(t, "data T = C deriving ()", "data T = C;\n")
	programs.checkText(t, "data T = C deriving (Eq)", "data T = C deriving (Eq);\n")
	programs.checkText(t, "data T a a = C c | C deriving (Any, Any)", "data T a a = C c | C deriving (Any, Any);\n")
}

func TestClasses(t *testing.T) {
	programs.checkTree(t, " class C a where { }", api.Program{Classes: []api.Class{{Name: "C", Var: "a", Pos: 1}}})
	programs.checkTree(t, "class C a where { ; m = x; m :: a -> b;; (+) :: a; (+) y = m; m = m; }", api.Program{Classes: []api.Class{{
		Name: "C", Var: "a",
		Methods:  []api.Method{{Name: "m", Type: tfun(tvar("a"), tvar("b"))}, {Name: "+", Type: tvar("a")}},
		Defaults: []api.Bind{bind(20, "m", evar(24, "x")), bind(52, "+", lam(52, "y", evar(59, "m"))), bind(62, "m", evar(66, "m"))},
	}}})
	programs.checkTree(t, "class D a => C a where { };class (D b,E b) => C b where{}", api.Program{Classes: []api.Class{
		{Name: "C", Var: "a", Supers: []string{"D"}},
		{Name: "C", Var: "b", Supers: []string{"D", "E"}, Pos: 27},
	}})
	programs.checkText(t, "class (D a) => C a where { m :: a; m :: T a }", "class D a => C a where { m :: a; m :: T a };\n")
	programs.checkText(t, "class (D a, D a) => D a where { (<) :: a -> a }", "class (D a, D a) => D a where { (<) :: a -> a };\n")
}

func TestInstances(t *testing.T) {
	programs.checkTree(t, " instance C T where { }", api.Program{Instances: []api.Instance{{Class: "C", Con: "T", Pos: 1}}})
	programs.checkTree(t, "instance C (T) where { }", api.Program{Instances: []api.Instance{{Class: "C", Con: "T"}}})
	programs.checkTree(t, "instance (C a, D b) => C (T a b) where { ; m = x; (+) y = m;; m = m }", api.Program{Instances: []api.Instance{{
		Class: "C", Con: "T", Vars: []string{"a", "b"}, Context: []api.Pred{pred("C", tvar("a")), pred("D", tvar("b"))},
		Binds: []api.Bind{bind(43, "m", evar(47, "x")), bind(51, "+", lam(51, "y", evar(58, "m"))), bind(62, "m", evar(66, "m"))},
	}}})
	programs.checkTree(t, "instance C x => C T where { }", api.Program{Instances: []api.Instance{{Class: "C", Con: "T", Context: []api.Pred{pred("C", tvar("x"))}}}})
	programs.checkText(t, "instance (C a) => C (T a a) where { m = 1 }", "instance C a => C (T a a) where { m = 1 };\n")
}

func TestDefinitions(t *testing.T) {
	programs.checkTree(t, " x = 1", api.Program{Binds: []api.Bind{bind(1, "x", number(5, 1))}})
	programs.checkTree(t, "f x y = x; (+) x = f; (*) = 1; x (+) = 2", api.Program{Binds: []api.Bind{
		bind(0, "f", lam(0, "x", lam(0, "y", evar(8, "x")))), bind(12, "+", lam(12, "x", evar(19, "f"))),
		bind(23, "*", number(28, 1)), bind(31, "x", lam(31, "+", number(39, 2))),
	}})
	programs.checkText(t, ";; x = 1;; data T = C;x = 2;", "data T = C;\nx = 1;\nx = 2;\n")
	programs.checkText(t, "x = 1; instance C T where { }; y = 2; class C a where { }; data T = T", "data T = T;\nclass C a where { };\ninstance C T where { };\nx = 1;\ny = 2;\n")
}

// A signature belongs to the first definition of its name in its own list, wherever it stands there.
func TestSignatures(t *testing.T) {
	a := api.Scheme{Vars: []string{"a"}, Type: tvar("a")}
	eq := api.Scheme{Vars: []string{"a"}, Context: []api.Pred{pred("Eq", tvar("a"))}, Type: tvar("a")}
	programs.checkTree(t, "x :: a; x = 1", api.Program{Binds: []api.Bind{signed(8, "x", a, number(12, 1))}})
	programs.checkTree(t, "x = 1; x :: Eq a => a", api.Program{Binds: []api.Bind{signed(0, "x", eq, number(4, 1))}})
	programs.checkTree(t, "(+) :: a; y = 1; (+) = 2; y :: a", api.Program{Binds: []api.Bind{signed(10, "y", a, number(14, 1)), signed(18, "+", a, number(23, 2))}})
	programs.checkText(t, "x = 1; x = 2; x :: a", "x :: a; x = 1;\nx = 2;\n")
	programs.checkText(t, "x = 1; x :: a; x = 2; x = 3", "x :: a; x = 1;\nx = 2;\nx = 3;\n")
	programs.checkText(t, "x :: a; data T = T; class C a where { x :: b }; instance C T where { x = 1 }; y = 1; x = 2", "data T = T;\nclass C a where { x :: b };\ninstance C T where { x = 1 };\ny = 1;\nx :: a; x = 2;\n")
	exprs.checkTree(t, "let { x :: a; y = 1; x = 2 } in x", let(0, evar(32, "x"), bind(14, "y", number(18, 1)), signed(21, "x", a, number(25, 2))))
	exprs.checkText(t, "let { x = let { y = 1; x :: b; x = 2 } in y; x :: a } in let { x = 3 } in x", "(let { x :: a; x = (let { y = 1; x :: b; x = 2 } in y) } in (let { x = 3 } in x))")
	exprs.checkText(t, "let { x :: a; x = 1; y = \\x -> x; y :: a -> a } in x", "(let { x :: a; x = 1; y :: a -> a; y = (\\x -> x) } in x)")
}

func TestWrongSignatures(t *testing.T) {
	for _, x := range []struct {
		text string
		pos  int
	}{
		{"x :: a", 0}, {" (+) :: a; x = 1", 2}, {"x = 1; x :: a; x :: a", 15}, {"x :: a; x = 1; x :: a", 15}, {"x :: a; x :: a; x = 1", 8}, {"x :: a; x :: a; x :: a", 0}, {"x = 1; x = 2; x :: a; x :: a", 22}, {"(+) = 1; (+) :: a; (+) :: b", 20},
		{"x :: a; y :: a; y :: a; y = 1", 0}, {"y :: a; y :: a; x :: a; y = 1", 8}, {"y :: a; x :: a; y :: a; y = 1", 8}, {"y :: a; y :: a; x = let { z :: a } in x; y = 1", 26},
		{"y :: Int; z = let { y = 1 } in y", 0}, {"y = 1; z = let { y :: a } in y", 17}, {"y :: a; class C a where { y :: a; y = 1 }; instance C T where { y = 1 }", 0}, {"y = 1; z = let { y = 1; w = let { y :: a; } in y } in 1", 34},
		{"x :: a; y = )", 12}, {"x :: a; y = 1)", 13}, {"x :: a; y = let { z :: a } in )", 18}, {"y = let { z :: a } )", 10}, {"y = let { z :: a }", 10}, {"y = let { z :: a in z", 17}, {"y = let { z :: a; ", 18}, {"y = let { z :: a; z = 1; z :: b; x = ( } in 1", 39}, {"y = let { z :: a; z :: a } in 1", 10},
	} {
		programs.checkError(t, x.text, x.pos, api.ErrParse)
	}
	exprs.checkError(t, "let { x = 1; y :: a } in )", 13, api.ErrParse)
	exprs.checkError(t, "f (let { x = 1; x :: a; x :: b } in x", 24, api.ErrParse)
	// A bracket too deep inside of a list tells ahead of what is looked at when the list has ended.
	deep := strings.Repeat("(", api.MaxDeep)
	exprs.checkError(t, "let { x :: a; y = "+deep+" } in 1", 18+api.MaxDeep-1, api.ErrLimit)
}

// In a class a signature's context must be none: looked at when the signature has ended.
func TestWrongMethods(t *testing.T) {
	for _, x := range []struct {
		text string
		pos  int
	}{
		{"class C a where { m :: Eq a => a }", 18}, {"class C a where { m :: a; (+) :: (Eq a) => a; n = ; }", 27}, {"class C a where { m :: Eq a => ; n = 1 }", 31}, {"class C a where { m :: Eq a => a -> ; n = 1 }", 36}, {"class C a where { m :: (Eq a, Ord b) => a", 18}, {"class C a where { n = ; m :: Eq a => a }", 22}, {"class C a where { m :: Eq a => a; n :: Eq a => a }", 18},
		{"class C a where { m :: Eq a => a }; x = )", 18}, {"x :: a; class C a where { m :: Eq a => a }", 26},
	} {
		programs.checkError(t, x.text, x.pos, api.ErrParse)
	}
}

// The context's variables are the class' own: else around that one.
func TestWrongSupers(t *testing.T) {
	for _, x := range []struct {
		text string
		pos  int
	}{
		{"class D b => C a where { }", 15}, {"class (D a, E b) => C a where { }", 22}, {"class (D b, E a) => C a where { }", 22}, {"class (D b, E b) => C a where { }", 22}, {"class D b => C a }", 15}, {"class D b => C )", 15}, {"class D b => C", 14}, {"class D b => C a where { m :: Eq a => a }", 15}, {"x :: a; class D b => C a where { }", 23},
	} {
		programs.checkError(t, x.text, x.pos, api.ErrParse)
	}
}

func TestWrongPrograms(t *testing.T) {
	for _, x := range []struct {
		text string
		pos  int
	}{
		{"x", 1}, {"x =", 3}, {"x = ;", 4}, {"x y", 3}, {"x = 1 2 )", 8}, {"x = 1 }", 6}, {"x = 1 y = 2", 8}, {"x = 1; )", 7}, {"x = 1,", 5}, {"X = 1", 0}, {"1 = 1", 0}, {"_ = 1", 0}, {"'a'", 0}, {"+ = 1", 0}, {"x + y = 1", 2}, {"x _ = 1", 2}, {"x X = 1", 2}, {"x 1 = 1", 2}, {"x (y) = 1", 2}, {"x (+ = 1", 5}, {"(x) = 1", 1}, {"() = 1", 1}, {"(+ = 1", 3}, {"(", 1}, {"(+", 2}, {"(+)", 3}, {"((+)) = 1", 1}, {"let { } in 1", 0}, {"where", 0}, {"deriving", 0}, {"{", 0}, {"x => 1", 2}, {"x -> 1", 2}, {"x = 1 where { }", 6}, {"x y :: a", 4}, {"x, y :: a", 1},
		{"x :: ", 5}, {"x :: ; x = 1", 5}, {"x :: a b; x = 1", 7}, {"x :: a = 1", 7}, {"x :: a x = 1", 7}, {"x :: T x = 1", 9}, {"x :: (+); x = 1", 6}, {"x :: a :: b", 7}, {"x :: data", 5},
		{"data", 4}, {"data t = T", 5}, {"data T", 6}, {"data T T = T", 7}, {"data T (a) = T", 7}, {"data T (+) = T", 7}, {"data T _ = T", 7}, {"data T a", 8}, {"data T = ", 9}, {"data T = | T", 9}, {"data T = t", 9}, {"data T = T |", 12}, {"data T = T | ;", 13}, {"data T = T | t", 13}, {"data T = T || U", 12}, {"data T = T U | V a | W -> a", 23}, {"data T = T a -> b", 13}, {"data T = T 1", 11}, {"data T = T (a", 13}, {"data T = T (a b)", 14}, {"data T = T () ", 12}, {"data T = (T)", 9}, {"data T = T, U", 10}, {"data T = Eq a => T", 14}, {"data Eq a => T = T", 10}, {"data T where { }", 7}, {"data T = T data U = U", 11}, {"data T = T x = 1", 13}, {"data (T a) = T", 5}, {"data (+) = T", 5},
		{"data T = T deriving", 19}, {"data T = T deriving eq", 20}, {"data T = T deriving ;", 20}, {"data T = T deriving (", 21}, {"data T = T deriving (Eq", 23}, {"data T = T deriving (Eq,)", 24}, {"data T = T deriving (,)", 21}, {"data T = T deriving (Eq Ord)", 24}, {"data T = T deriving Eq Ord", 23}, {"data T = T deriving Eq, Ord", 22}, {"data T = T deriving (a)", 21}, {"data T = T deriving (+)", 21}, {"data T = T deriving ((Eq))", 21}, {"data T = T deriving () | U", 23}, {"data T = T deriving Eq deriving Eq", 23}, {"data T = deriving Eq", 9},
		{"class", 5}, {"class c a where { }", 6}, {"class C", 7}, {"class C where { }", 8}, {"class C A where { }", 8}, {"class C (a) where { }", 8}, {"class C (+) where { }", 8}, {"class C _ where { }", 8}, {"class C a", 9}, {"class C a { }", 10}, {"class C a b where { }", 10}, {"class C a where", 15}, {"class C a where }", 16}, {"class C a where {", 17}, {"class C a where { m", 19}, {"class C a where { m }", 20}, {"class C a where { m :: a", 24}, {"class C a where { m :: a b }", 25}, {"class C a where { m :: a m = 1 }", 25}, {"class C a where { m = 1", 23}, {"class C a where { m = }", 22}, {"class C a where { M = 1 }", 18}, {"class C a where { (m) = 1 }", 19}, {"class C a where { } x = 1", 20}, {"class C a where { data T = T }", 18}, {"class C a; x = 1", 9}, {"class { }", 6}, {"class (C a) where { }", 6}, {"class (C a", 6},
		{"class () => C a where { }", 7}, {"class D => C a where { }", 8}, {"class D (a) => C a where { }", 8}, {"class D T => C a where { }", 8}, {"class d a => C a where { }", 6}, {"class (D a,) => C a where { }", 11}, {"class (D (a)) => C a where { }", 9}, {"class ((D a)) => C a where { }", 7}, {"class (D a E a) => C a where { }", 11}, {"class (D a) (E a) => C a where { }", 6}, {"class D a, E a => C a where { }", 9}, {"class D a => ", 13}, {"class D a => C", 14}, {"class D a => C T where { }", 15}, {"class D a => E a => C a where { }", 17}, {"class D a => (C a) where { }", 13}, {"class => C a where { }", 6}, {"class (+) => C a where { }", 7},
		{"instance", 8}, {"instance c T where { }", 9}, {"instance C", 10}, {"instance C where { }", 11}, {"instance C a where { }", 11}, {"instance C (a) where { }", 12}, {"instance C () where { }", 12}, {"instance C (T", 13}, {"instance C (T a", 15}, {"instance C (T T) where { }", 14}, {"instance C (T (a)) where { }", 14}, {"instance C (T 1) where { }", 14}, {"instance C (T (+)) where { }", 14}, {"instance C ((T a)) where { }", 12}, {"instance C (+) where { }", 12}, {"instance C (a -> b) where { }", 12}, {"instance C T a where { }", 13}, {"instance C (T a) b where { }", 17}, {"instance C T", 12}, {"instance C T { }", 13}, {"instance C T where", 18}, {"instance C T where {", 20}, {"instance C T where { m", 22}, {"instance C T where { m :: Int }", 23}, {"instance C T where { m x :: Int }", 25}, {"instance C T where { m = 1", 26}, {"instance C T where { m = 1 n = 2 }", 29}, {"instance C T where { M = 1 }", 21}, {"instance C T where { } }", 23}, {"instance (C T) where { }", 9}, {"instance (C a", 9},
		{"instance () => C T where { }", 10}, {"instance C (a) => C T where { }", 11}, {"instance C T => C T where { }", 11}, {"instance C => C T where { }", 11}, {"instance (C T) => C T where { }", 12}, {"instance (C (T a)) => C T where { }", 12}, {"instance (C a D b) => C T where { }", 14}, {"instance C a => ", 16}, {"instance C a => T where { }", 18}, {"instance C a => C b where { }", 18}, {"instance C a => D b => C T where { }", 18}, {"instance C a b => C T where { }", 11}, {"instance C (=> C T where { }", 12},
	} {
		programs.checkError(t, x.text, x.pos, api.ErrParse)
		head := "data Z = Z; z = 1; ; "
		programs.checkError(t, head+x.text, len(head)+x.pos, api.ErrParse)
		programs.checkModel(t, x.text)
	}
}
