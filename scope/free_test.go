package scope_test

import (
	"slices"
	"testing"

	"paideia/api"
	"paideia/parser"
	"paideia/scope"
)

func readExpr(text string) api.Expr {
	e, err := parser.Expr([]byte(text))
	if err != nil {
		panic(text + ": " + err.Error())
	}
	return e
}

func readProgram(text string) api.Program {
	p, err := parser.Program([]byte(text))
	if err != nil {
		panic(text + ": " + err.Error())
	}
	return p
}

func areNames(t *testing.T, got []string, want ...string) {
	t.Helper()
	if !slices.Equal(got, want) {
		t.Errorf("%q; want %q", got, want)
	}
}

// isFree asks for the free variables of a text.
func isFree(t *testing.T, text string, want ...string) {
	t.Helper()
	if got := scope.Free(readExpr(text)); !slices.Equal(got, want) {
		t.Errorf("%s: %q; want %q", text, got, want)
	}
}

func TestFreeOfAtoms(t *testing.T) {
	isFree(t, "x", "x")
	isFree(t, "x'", "x'")
	isFree(t, "_a", "_a")
	isFree(t, "C")
	isFree(t, "1")
	isFree(t, "'a'")
}

func TestFreeOfApplications(t *testing.T) {
	isFree(t, "f x", "f", "x")
	isFree(t, "f x y z", "f", "x", "y", "z")
	isFree(t, "z y x f", "z", "y", "x", "f")
	isFree(t, "f (g x) (h y)", "f", "g", "x", "h", "y")
	isFree(t, "C x D", "x")
	isFree(t, "C D 1 'a'")
	isFree(t, "1 x", "x")
}

func TestFreeOnceEach(t *testing.T) {
	isFree(t, "x x", "x")
	isFree(t, "x x x x", "x")
	isFree(t, "f x (f y) x", "f", "x", "y")
	isFree(t, "b a (a b) c (c a)", "b", "a", "c")
	isFree(t, "\\a -> x (\\b -> x y) y", "x", "y")
	isFree(t, "let { a = x; b = x y } in y z", "x", "y", "z")
	isFree(t, "case x of { C -> x y; D -> y; a -> z }", "x", "y", "z")
}

// Operators are variables; one that stands between is applied to what stands to its left and right.
func TestFreeOfOperators(t *testing.T) {
	for _, op := range []string{"==", "/=", "<", "<=", ">", ">=", "+", "-", "*"} {
		isFree(t, "("+op+")", op)
		isFree(t, "a "+op+" b", op, "a", "b")
		isFree(t, "\\("+op+") -> a "+op+" b", "a", "b")
		isFree(t, "let { ("+op+") = f } in a "+op+" b", "f", "a", "b")
		isFree(t, "case a of { C ("+op+") -> 1 "+op+" b }", "a", "b")
		isFree(t, "case a of { ("+op+") -> 1 "+op+" b }", "a", "b")
	}
	isFree(t, "a + b + c", "+", "a", "b", "c")
	isFree(t, "a * b - c * d == e", "==", "-", "*", "a", "b", "c", "d", "e")
	isFree(t, "f (+) a", "f", "+", "a")
}

func TestFreeOfLambdas(t *testing.T) {
	isFree(t, "\\x -> x")
	isFree(t, "\\x -> y", "y")
	isFree(t, "\\x -> x y", "y")
	isFree(t, "\\x y -> x y z", "z")
	isFree(t, "\\x -> \\y -> z y x", "z")
	isFree(t, "\\x -> C x")
	isFree(t, "\\f -> f (\\x -> f x y)", "y")
}

// A name is bound where its lambda is, and nowhere else.
func TestFreeInOnePartAlone(t *testing.T) {
	isFree(t, "(\\x -> x) x", "x")
	isFree(t, "x (\\x -> x)", "x")
	isFree(t, "f (\\x -> x) x", "f", "x")
	isFree(t, "(\\x -> y x) (\\y -> x y)", "y", "x")
	isFree(t, "(\\x y -> x y) y x", "y", "x")
	isFree(t, "\\x -> (\\y -> x y z) y", "z", "y")
}

// Behind an inner lambda of the same name the outer one's is still bound.
func TestFreeOfHidden(t *testing.T) {
	isFree(t, "\\x -> \\x -> x")
	isFree(t, "\\x x -> x y", "y")
	isFree(t, "\\x -> (\\x -> x) x")
	isFree(t, "\\x -> f (\\x -> x) x (\\x y -> y x) x y", "f", "y")
	isFree(t, "\\x -> (let { x = x } in x) x")
	isFree(t, "\\x -> (case x of { C x x -> x; x -> x; _ -> x }) x")
	isFree(t, "let { x = \\x -> x; y = x } in (\\x -> x) x y")
	isFree(t, "let { x = 1 } in (let { x = 2 } in x) x")
	isFree(t, "let { x = 1 } in (let { x = 2; x = 3 } in x) x")
	isFree(t, "case 1 of { x -> (case x of { x -> x }) x }")
	isFree(t, "(\\x -> (\\x -> x) x) x", "x")
}

func TestFreeOfCases(t *testing.T) {
	isFree(t, "case x of { }", "x")
	isFree(t, "case x of { C -> y; D -> z }", "x", "y", "z")
	isFree(t, "case f x of { C y z -> y z w; D -> y z }", "f", "x", "w", "y", "z")
	isFree(t, "case z of { C -> y; D -> x }", "z", "y", "x")
	isFree(t, "case y of { C y -> y }", "y")
	isFree(t, "case C of { C y -> y }")
	isFree(t, "case C of { y -> y }")
	isFree(t, "case C of { y -> x y }", "x")
	isFree(t, "case C of { y -> y; z -> y }", "y")
	isFree(t, "case C of { C y -> 1; D z -> y z; E -> z }", "y", "z")
	isFree(t, "case (\\y -> y) of { C x -> x; D -> y }", "y")
	isFree(t, "case C of { D y y -> y }")
	isFree(t, "if x then y else x z", "x", "y", "z")
	isFree(t, "if True then 1 else 2")
}

// `_` stands in no expression, and binds nothing: what is free beside it stays free.
func TestFreeBesideBlanks(t *testing.T) {
	isFree(t, "case x of { C _ y _ -> y z; _ -> w }", "x", "z", "w")
	isFree(t, "case x of { C _ _ -> x _a }", "x", "_a")
	isFree(t, "case x of { _ -> y }", "x", "y")
	isFree(t, "case x of { _a -> _a _b }", "x", "_b")
	e := readExpr("case 1 of { C _ y _ -> y blank }")
	e.Alts[0].Body.L[1].Name = "_"
	areNames(t, scope.Free(e), "_")
}

// A let's names are bound in all of it: in each definition, those ahead of its own too, and behind `in`.
func TestFreeOfLets(t *testing.T) {
	isFree(t, "let { } in x", "x")
	isFree(t, "let { x = y } in z", "y", "z")
	isFree(t, "let { x = z } in y", "z", "y")
	isFree(t, "let { x = x } in 1")
	isFree(t, "let { x = f x } in x", "f")
	isFree(t, "let { x = 1 } in x")
	isFree(t, "let { a = b a; b = c } in a d", "c", "d")
	isFree(t, "let { a = c; b = a; c = b } in 1")
	isFree(t, "let { a = b; b = c; c = d; d = e } in e", "e")
	isFree(t, "let { f x y = x y z; g = x } in f g", "z", "x")
	isFree(t, "let { x = 1 } in (let { y = x } in z x) x", "z")
	isFree(t, "(let { x = 1 } in x) x", "x")
	isFree(t, "x (let { x = 1 } in x)", "x")
	isFree(t, "let { x = let { y = z } in x y } in y", "z", "y")
	isFree(t, "let { x = 1; x = y } in x", "y")
	isFree(t, "let { f :: a -> b; f = f } in f")
	isFree(t, "let { (+) = x } in (+)", "x")
}
