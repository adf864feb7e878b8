package scope_test

import (
	"strings"
	"testing"

	"paideia/api"
	"paideia/scope"
)

func knownVars() []string { return []string{"known", "+", "=="} }
func knownCons() []string { return []string{"Known", "True", "False"} }

// say is an error in words: what it is, and its place.
func say(err error) string {
	if err == nil {
		return "nothing"
	}
	at, ok := err.(*api.At)
	if !ok || at == nil {
		return "no place: " + err.Error()
	}
	switch at.Err {
	case api.ErrScope, api.ErrTwice:
		return at.Error()
	}
	return "neither ErrScope nor ErrTwice: " + at.Error()
}

// checkFault asks for what is amiss first in a program: err at the @ of the text, which is no word of the language; nothing, if err is nil.
func checkFault(t *testing.T, text string, err error) {
	t.Helper()
	pos, want := strings.Index(text, "@"), error(nil)
	if err != nil {
		want = &api.At{Pos: pos, Err: err}
	}
	if (pos < 0) != (err == nil) {
		t.Fatal("no place, or one too much:", text)
	}
	got := scope.Check(readProgram(strings.Replace(text, "@", "", 1)), knownVars(), knownCons())
	if say(got) != say(want) {
		t.Errorf("%s: %s; want %s", text, say(got), say(want))
	}
}

func isWell(t *testing.T, texts ...string) {
	t.Helper()
	for _, text := range texts {
		checkFault(t, text, nil)
	}
}

func isTwice(t *testing.T, texts ...string) {
	t.Helper()
	for _, text := range texts {
		checkFault(t, text, api.ErrTwice)
	}
}

func isNobodys(t *testing.T, texts ...string) {
	t.Helper()
	for _, text := range texts {
		checkFault(t, text, api.ErrScope)
	}
}

func TestCheckOfNothing(t *testing.T) {
	isWell(t, "", ";", "class C a where { }", "instance C T where { }", "data T = A")
}

func TestDatas(t *testing.T) {
	isTwice(t,
		"data T = A; @data T = B",
		"data T = A; data U = B; data V = C; @data U = D",
		"data T a = A; @data T b = B",
		"@data T a a = A",
		"@data T a b c a = A",
		"data T a b = A; @data U b c b = B",
		"@data T = A | A",
		"@data T = A | B | C | A",
		"@data T a = A a | A a a",
		"data T = A; @data U = A",
		"data T = A | B; data U = C; @data V = D | B",
		"@data T = Known",
		"data T = A; @data U = B | True",
	)
	isWell(t,
		"data T = A | B; data U = C | D",
		"data T = T; data U = U",
		"data T = U; data U = T", // a type's name is no constructor's
		"data Known = A",
		"data T a b = A a b; data U a b = B a b", // each has variables of its own
		"data T known = A known; known' = 1",
		"data T a = A a a (T a)", // arguments may be the same
		"data T = A B B deriving (Eq, Eq)",
		"data C = A; class C a where { }; instance C C where { }",
	)
}

// The first that is amiss in the text, whatever it is.
func TestDatasInOrder(t *testing.T) {
	isTwice(t,
		"data T = A; @data T = B; data U a a = C",
		"@data U a a = C; data T = A; data T = B",
		"@data T = A | A; data U = B; data U = C",
		"data T = A; @data U = A; data V a a = B",
		"data T = A; @data U = B | Known; data T = A",
		"data T = A; @data T a a = A | Known",
	)
}

func TestClasses(t *testing.T) {
	isTwice(t,
		"class C a where { }; @class C a where { }",
		"class C a where { m :: a }; class D a where { }; class E a where { }; @class D b where { n :: b }",
		"@class C a where { known :: a }",
		"@class C a where { m :: a; n :: a; (+) :: a }",
		"class C a where { }; @class D a where { m :: a; known :: a }",
		"class C a where { m :: a }; @class D a where { m :: a }",
		"class C a where { m :: a; n :: a }; class D a where { }; @class E a where { l :: a; n :: a }",
		"@class C a where { m :: a; m :: a }",
		"@class C a where { m :: a; n :: a; l :: a; m :: a -> a }",
		"class C a where { (*) :: a }; @class D a where { (*) :: a }",
	)
	isWell(t,
		"class C a where { m :: a }; class D a where { n :: a }",
		"class C a where { a :: a }",
		"class (B a, B a) => C a where { m :: a }", // that is for another layer
		"class Known a where { m :: a }",
		"class C a where { m :: a; m = 1 }", // a default is no name of the program's
	)
}

func TestClassesInOrder(t *testing.T) {
	isTwice(t,
		"class C a where { }; @class C a where { }; class D a where { known :: a }",
		"@class D a where { known :: a }; class C a where { }; class C a where { }",
		"@class C a where { m :: a; m :: a }; class C a where { }",
		"class C a where { m :: a }; @class D a where { m :: a }; class C a where { known :: a }",
	)
}

func TestBinds(t *testing.T) {
	isTwice(t,
		"class C a where { m :: a }; @m = 1",
		"@m = 1; class C a where { m :: a }",
		"class C a where { n :: a }; class D a where { m :: a; l :: a }; x = 1; @l = 2",
		"class C a where { (*) :: a }; (@*) = 1",
		"@known = 1",
		"x = 1; @known y = 2",
		"(@+) x y = x",
		"x = 1; @x = 2",
		"x = 1; y = 2; z = 3; @y = 4",
		"x = 1; x' = 2; y = 3; @x = 4; y = 5; x = 6",
		"(*) = 1; (@*) = 2",
		"x :: a; x = 1; @x = 2",
	)
	isWell(t,
		"x = 1; y = 2; x' = 3; _x = 4; (*) = 5",
		"x = 1; class C a where { m :: x }; data T x = A x",
		"class C a where { m :: a; m = 1; d = 2 }; d = 3",
		"instance C T where { x = 1 }; x = 2",
		"f x = x; x f = f",
	)
}

func TestBindsInOrder(t *testing.T) {
	isTwice(t,
		"class C a where { m :: a }; x = 1; @x = 2; m = 3; known = 4",
		"class C a where { m :: a }; @m = 3; x = 1; x = 2; known = 4",
		"class C a where { m :: a }; @known = 4; m = 3; x = 1; x = 2",
	)
}

// A name that is nobody's, in each of the three.
func TestNobodys(t *testing.T) {
	isNobodys(t,
		"x = @z", "x = @C", "x = case 1 of { @C -> 1 }",
		"class C a where { m :: a; m = @z }", "class C a where { m = @D }", "class C a where { m = case 1 of { @D -> 1 } }",
		"instance C T where { m = @z }", "instance C T where { m = @C }", "instance C T where { m = case 1 of { @C -> 1 } }",
		"x = 1; y = @z; v = w",
		"class D a where { }; class C a where { m :: a; n :: a; n = known; m = @z }",
		"instance D T where { n = 1 }; instance C T where { m = 1; n = @z }",
	)
}

// What is known: what is told besides, what the program defines anywhere, what is bound around.
func TestKnown(t *testing.T) {
	isWell(t,
		"x = known", "x = Known", "x = case Known of { Known -> 1 }",
		"x = x", "x = y; y = x", "x = A; data T = A | B", "data T = A Int; x = case 1 of { A y -> y }",
		"x = m; class C a where { m :: a }", "class C a where { m :: a; m = n; n :: a }", "class C a where { m :: a; m = n }; class D a where { n :: a }",
		"class C a where { m :: a; m = x }; x = 1", "class C a where { m :: a; m = m A }; data T = A",
		"instance C T where { m = x n known }; x = 1; class C a where { n :: a }", "instance C T where { m = case A of { B -> A } }; data T = A | B",
		"f x = x", "f x y (*) = x * y", "x = 1 + 2", "x = if 1 == 2 then True else False",
	)
}

// Variables and constructors are apart, and so are types, classes, and type variables; a default or an instance's definition defines nothing.
func TestNotKnown(t *testing.T) {
	isNobodys(t,
		"x = @T; data T = A", "x = @C; class C a where { }", "x = case 1 of { @T -> 1 }; data T = A",
		"data T a = A a; x = @a", "class C a where { m :: a; m = @a }", "instance C (T a) where { m = @a }",
		"class C a where { m = 1; n = @m }", "class C a where { m = @m }", "class C a where { m = 1 }; x = @m",
		"instance C T where { m = 1; n = @m }", "instance C T where { m = @m }", "instance C T where { m = 1 }; x = @m",
		"f x = x; y = @x", "f = let { x = 1 } in x; y = @x", "f :: Eq a => a; f = @a",
		"x = @y", "x = y @y'; y = 1",
	)
}

// Nothing is known but what is told.
func TestNothingBesides(t *testing.T) {
	for text, want := range map[string]error{
		"x = known":                     &api.At{Pos: 4, Err: api.ErrScope},
		"x = Known":                     &api.At{Pos: 4, Err: api.ErrScope},
		"x = 1 + 2":                     &api.At{Pos: 6, Err: api.ErrScope},
		"x = if 1 then 2 else 3":        &api.At{Pos: 4, Err: api.ErrScope},
		"known = 1; data T = Known":     nil,
		"x y = y; z = x 'a' (\\y -> y)": nil,
		"data Bool = True; x = if 1 then 2 else 3":         &api.At{Pos: 22, Err: api.ErrScope},
		"data Bool = True | False; x = if 1 then 2 else 3": nil,
	} {
		for _, none := range [][]string{nil, {}} {
			if err := scope.Check(readProgram(text), none, none); say(err) != say(want) {
				t.Errorf("%s: %s; want %s", text, say(err), say(want))
			}
		}
	}
	p := readProgram("x = y C")
	for _, y := range [][]string{nil, {"y"}, {"C"}, {"y", "y"}, {"", "z", "y"}} {
		for _, c := range [][]string{nil, {"C"}, {"y"}, {"C", "C"}, {"", "D", "C"}} {
			want := "nothing"
			switch {
			case len(y) == 0 || y[len(y)-1] != "y":
				want = say(&api.At{Pos: 4, Err: api.ErrScope})
			case len(c) == 0 || c[len(c)-1] != "C":
				want = say(&api.At{Pos: 6, Err: api.ErrScope})
			}
			if err := scope.Check(p, y, c); say(err) != want {
				t.Errorf("%q, %q: %s; want %s", y, c, say(err), want)
			}
		}
	}
}

// Names that are hidden by others, which is not amiss.
func TestHidden(t *testing.T) {
	isWell(t,
		"x = \\x -> x", "x = \\known -> known", "f f = f", "f x x = x", "x = \\y y -> y", "x = \\y -> \\y -> y",
		"x = let { x = 1; known = 2; (+) = 3 } in x + known", "x = let { y = 1 } in let { y = 2 } in y", "x = \\y -> let { y = y } in y",
		"x = let { y = let { y = 1 } in y; z = let { y = 2; z = 3 } in z } in y",
		"x = case 1 of { Known x -> x; known -> known; x -> x }", "x = \\y -> case y of { Known y -> y; y -> y }",
		"x = case 1 of { Known y -> case y of { Known y -> y } }",
		"class C a where { m :: a; m = \\m known -> m known; n = let { m = 1; n = 2 } in m n }",
		"instance C T where { m = \\x -> x; x = 1; known = 2 }; x = 1; class D a where { m :: a }",
		"class C a where { m :: a; known = 1; x = 2 }; x = 3",
		"instance C T where { m = 1 }; instance D T where { m = 1 }; class C a where { m = 2 }; class D a where { m = 3 }",
		"x = (\\x -> x) (\\x -> x)", "x = let { a = 1 } in (let { a = 2 } in a) (let { a = 3 } in a)",
	)
	isNobodys(t,
		"x = (\\y -> y) @y", "x = (\\y -> (\\y -> y) y @z)", "x = (let { y = 1 } in y) @y", "x = (case 1 of { y -> y; Known z -> @y })",
		"x = (case 1 of { Known y -> y }) @y", "x = \\y -> let { z = 1 } in (\\y -> y z) y z @v",
	)
}

// A name twice in a list: told at the second one, ahead of what is amiss in the bodies.
func TestListsTwice(t *testing.T) {
	isTwice(t,
		"x = let { a = 1; @a = 2 } in a",
		"x = let { a = 1; b = 2; c = 3; @b = 4; a = 5 } in a",
		"x = let { a = w; @a = W } in v",
		"x = let { (*) = 1; (@*) = 2 } in 3",
		"x = let { a = let { b = 1; b = 2 } in b; @a = 2 } in a",
		"x = let { a = let { b = 1; @b = 2 } in w; c = 2 } in a",
		"x = let { a = 1 } in let { a = w; @a = 2 } in a",
		"x = let { a :: a; a = 1; @a = 2 } in a",
		"class C a where { m :: a; m = 1; @m = 2 }",
		"class C a where { m = z; n = W; @m = 2; n = 3 }",
		"class C a where { d = let { b = 1; b = 2 } in b; @d = 2 }",
		"instance C T where { m = 1; @m = 2 }",
		"instance C T where { m = z; n = W; @n = 2; m = 3 }",
		"instance C T where { (+) = 1; (@+) = 2 }",
		"x = let { a = 1 } in \\y -> let { b = 1; @b = 2 } in c",
	)
	isNobodys(t,
		"x = let { a = @w } in v", "x = let { a = 1; b = @w } in v", "x = let { a = 1 } in @v", "x = let { } in @v",
		"x = let { a = @w; b = let { c = 1; c = 2 } in 3 } in v",
		"class C a where { m = @z }; class D a where { m = 1; m = 2 }",
		"instance C T where { m = @z }; instance D T where { m = 1; m = 2 }",
		"class C a where { m = 1; n = @z }; instance D T where { m = 1; m = 2 }",
	)
}

func TestAltsTwice(t *testing.T) {
	isTwice(t,
		"x = case 1 of { @Known a a -> 1 }",
		"x = case 1 of { @Known a b c b -> 1 }",
		"x = case 1 of { @Known _ a _ a -> z }",
		"x = case 1 of { @Known (*) (*) -> 1 }",
		"x = case 1 of { Known a b -> a; _ -> 1; c -> c; @Known b b -> w }",
		"x = case 1 of { Known -> case 2 of { @Known a a -> 1 } }",
		"class C a where { m = case 1 of { @Known a a -> 1 } }",
		"instance C T where { m = case 1 of { @Known a a -> 1 } }",
	)
	isWell(t,
		"x = case 1 of { Known _ _ -> 1 }",
		"x = case 1 of { Known _ a _ b _ -> a b }",
		"x = case 1 of { Known a _ -> a; Known _ a -> a; a -> a; a -> a; _ -> 1; _ -> 1 }",
		"x = case 1 of { Known a a' _a -> 1 }",
	)
}

// A constructor of an alternative is told at its place, ahead of its variables and its body.
func TestAltsOfNobody(t *testing.T) {
	isNobodys(t,
		"x = case 1 of { @C -> z }",
		"x = case 1 of { @C a a -> z }",
		"x = case 1 of { _ -> 1; a -> a; Known a -> a; @C -> 1 }",
		"x = case @w of { C -> v }",
		"x = case @W of { C -> v }",
		"x = case 1 of { Known a -> @b; C -> 1 }",
		"x = case 1 of { Known _ -> 1; Known a b -> a + b; c -> c; _ -> @b }",
		"x = case 1 of { Known a -> a; Known b -> @a }",
		"x = case 1 of { a -> a; _ -> @a }",
	)
}
