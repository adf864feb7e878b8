package classes_test

import (
	"fmt"
	"strings"
	"testing"

	"paideia/api"
	"paideia/classes"
	"paideia/cons"
	"paideia/parser"
)

func readProgram(text string) api.Program {
	p, err := parser.Program([]byte(text))
	if err != nil {
		panic(text + ": " + err.Error())
	}
	return p
}

func readClasses(text string) []api.Class { return readProgram(text).Classes }

// someTypes are a type of one argument, one of two, one of none.
func someTypes() *cons.Env {
	var c cons.Env
	if err := c.Add(readProgram("data L a = N | C a (L a); data P a b = P (L a) (a -> b) Int; data U = U").Datas...); err != nil {
		panic(say(err))
	}
	return &c
}

const knownText = "class A a where { p :: a -> b -> c -> b; q :: b -> a; q = r }; class A x => B x where { r :: x }; class (B d, A d) => D d where { }"

func known() *classes.Env { return with(knownText) }

func with(text string) *classes.Env {
	var e classes.Env
	if err := e.Add(someTypes(), readClasses(text)...); err != nil {
		panic(text + ": " + say(err))
	}
	return &e
}

// say is an error in words: what it is, and its place.
func say(err error) string {
	if err == nil {
		return "nothing"
	}
	at, ok := err.(*api.At)
	if !ok || at == nil {
		return "no place: " + err.Error()
	}
	switch at.Err {
	case api.ErrTwice, api.ErrClass, api.ErrScope, api.ErrKind:
		return at.Error()
	}
	return "none of ErrTwice, ErrClass, ErrScope, ErrKind: " + at.Error()
}

// someNames are names that stand in the tests.
func someNames() []string {
	return []string{"", "A", "B", "D", "E", "Q", "X", "Y", "Z", "W", "V", "a", "x", "p", "q", "r", "m", "n", "o", "k", "==", "<"}
}

// tellOf is all that an Env tells of a name.
func tellOf(e *classes.Env, name string) string {
	k, is := e.Class(name)
	text := fmt.Sprintf("%s: %v %t", name, k, is)
	class, place, is := e.Method(name)
	text += fmt.Sprintf("; %s %d %t", class, place, is)
	s, is := e.Scheme(name)
	return text + fmt.Sprintf("; %v %t; %q\n", s, is, e.Above(name))
}

// tell is all that an Env tells.
func tell(e *classes.Env) string {
	var text strings.Builder
	for _, name := range someNames() {
		text.WriteString(tellOf(e, name))
	}
	for _, k := range e.Classes() {
		text.WriteString(fmt.Sprintf("%v\n", k))
	}
	return text.String()
}

// addFault adds the classes of a text to known: err around the @ of the text, which is no word of the language; nothing, if err is nil. Behind an error all is as it was.
func addFault(t *testing.T, text string, err error) {
	t.Helper()
	pos, want := strings.Index(text, "@"), error(nil)
	if err != nil {
		want = &api.At{Pos: pos, Err: err}
	}
	if (pos < 0) != (err == nil) {
		t.Fatal("no place, or one too much:", text)
	}
	e := known()
	before := tell(e)
	l := readClasses(strings.Replace(text, "@", "", 1))
	got := e.Add(someTypes(), l...)
	if say(got) != say(want) {
		t.Errorf("%s: %s; want %s", text, say(got), say(want))
		return
	}
	if err != nil && tell(e) != before {
		t.Errorf("%s: behind an error it tells\n%s; before that\n%s", text, tell(e), before)
	}
	if err == nil && len(e.Classes()) != 3+len(l) {
		t.Errorf("%s: there are %d", text, len(e.Classes()))
	}
}

func isWell(t *testing.T, texts ...string) {
	t.Helper()
	for _, text := range texts {
		addFault(t, text, nil)
	}
}

func isTwice(t *testing.T, texts ...string) {
	t.Helper()
	for _, text := range texts {
		addFault(t, text, api.ErrTwice)
	}
}

func isNoClass(t *testing.T, texts ...string) {
	t.Helper()
	for _, text := range texts {
		addFault(t, text, api.ErrClass)
	}
}

func isNobodys(t *testing.T, texts ...string) {
	t.Helper()
	for _, text := range texts {
		addFault(t, text, api.ErrScope)
	}
}

func isKind(t *testing.T, texts ...string) {
	t.Helper()
	for _, text := range texts {
		addFault(t, text, api.ErrKind)
	}
}

func TestAddOfNothing(t *testing.T) {
	isWell(t, "", ";;", "f = f")
	for _, e := range []*classes.Env{{}, known()} {
		before := tell(e)
		for _, c := range []*cons.Env{{}, someTypes(), {}} {
			for i, err := range []error{e.Add(c), e.Add(c, nil...), e.Add(c, []api.Class{}...), e.Add(c, readClasses(knownText)[:0]...)} {
				if err != nil || tell(e) != before {
					t.Errorf("%d: %s; then it tells\n%s; before that\n%s", i, say(err), tell(e), before)
				}
			}
		}
	}
}

func TestAddOfSome(t *testing.T) {
	isWell(t,
		"class X a where { }",
		"class X a where { m :: a }",
		"class X a where { m :: a; m = n }",
		"class A a => X a where { m :: a -> a; n :: L a; n = m }",
		"class (B a, A a, D a) => X a where { }",
		"class X a where { (==) :: a -> a -> a; (<) :: L a; (<) = (==); (==) = (<) }",
		"class X a where { m :: P (L a) (b -> U) -> Int -> Char; n :: b -> c -> a; k :: (a -> Char) -> L b }",
		"class X a where { }; class X a => Y a where { }; class (X b, Y b) => Z b where { m :: b }",
	)
}

func TestClassesTwice(t *testing.T) {
	isTwice(t,
		"@class A a where { }",
		"@class B a where { m :: a }",
		"@class D d where { }",
		"class X a where { }; @class A b where { }",
		"class X a where { }; @class X a where { }",
		"class X a where { m :: a }; @class X a where { n :: a }",
		"class X a where { }; class Y a where { }; @class X a where { }",
		"class X a where { }; class Y a where { }; class Z a where { }; @class Z a where { }",
		"class X a where { }; @class A a => X a where { }",
	)
	// those that are the same but for a part of the name
	isWell(t, "class AA a where { }", "class A' a where { }; class A1 a where { }", "class Xx a where { }; class X a where { }; class XX a where { }")
}

func TestMethodsTwice(t *testing.T) {
	isTwice(t,
		"@class X a where { p :: a }",
		"@class X a where { q :: a }",
		"@class X a where { r :: a }",
		"@class X a where { m :: a; n :: a; r :: a }",
		"class X a where { m :: a }; @class Y a where { n :: a; p :: a }",
		"@class X a where { m :: a; m :: a }",
		"@class X a where { m :: a; n :: a; m :: L a }",
		"@class X a where { m :: a; n :: a; n :: a }",
		"class X a where { m :: a }; @class Y a where { n :: a; k :: a; k :: a }",
		"class X a where { m :: a }; @class Y a where { m :: a }",
		"class X a where { m :: a; n :: a }; @class Y a where { k :: a; n :: L a }",
		"class X a where { m :: a; n :: a }; class Y a where { k :: a }; @class X a => Z a where { m :: a }",
		"class X a where { (+) :: a }; @class Y a where { (-) :: a; (+) :: a }",
		"class X a where { m :: a; m = m }; @class X a => Y a where { m :: a; m = m }",
	)
	isWell(t, "class X a where { p' :: a; pp :: a; m :: a; m' :: a; mm :: a }; class Y a where { m1 :: a; q1 :: a }", "class X a where { (<) :: a; (<=) :: a; (+) :: a }; class Y a where { (>) :: a; (-) :: a }")
}

func TestSupersTwice(t *testing.T) {
	isTwice(t,
		"@class (A a, A a) => X a where { }",
		"@class (A a, B a, A a) => X a where { m :: a }",
		"@class (A a, B a, D a, B a) => X a where { }",
		"@class (Y a, Y a) => X a where { }; class Y a where { }",
		"class Y a where { }; @class (A a, Y a, Y a) => X a where { }",
		"@class (Q a, Q a) => X a where { }",
		"@class (X a, X a) => X a where { }",
		"class (A a, B a) => X a where { }; class (A a, B a) => Y a where { }; @class (B a, A a, B a) => Z a where { }",
	)
	// two classes' may be the same; and one may be above by itself and by way of another one
	isWell(t, "class (A a, B a) => X a where { }; class (B a, A a) => Y a where { }", "class (D a, B a, A a) => X a where { }")
}

// byHand is a class of the methods of these names, each of the class' type.
func byHand(name string, pos int, methods ...string) api.Class {
	k := api.Class{Name: name, Var: "a", Pos: pos}
	for _, m := range methods {
		k.Methods = append(k.Methods, api.Method{Name: m, Type: api.Type{Kind: api.TVar, Name: "a"}})
	}
	return k
}

// A class and a method may have one name, which no parser makes: of one class, of others.
func TestClassesAndMethodsOfOneName(t *testing.T) {
	for _, l := range [][]api.Class{
		{byHand("X", 1, "X")}, {byHand("p", 1)}, {byHand("X", 1, "A", "B", "D")}, {byHand("X", 1, "Y"), byHand("Y", 2, "X")}, {byHand("X", 1), byHand("Y", 2, "X")}, {byHand("X", 1, "Y"), byHand("Y", 2)}, {byHand("r", 1, "A")},
	} {
		if err := known().Add(someTypes(), l...); err != nil {
			t.Errorf("%v: %s", l, say(err))
		}
	}
	for _, l := range [][]api.Class{
		{byHand("X", 1, "X"), byHand("X", 9)}, {byHand("p", 1), byHand("p", 9)}, {byHand("X", 1, "A"), byHand("Y", 9, "A")}, {byHand("X", 1, "Y"), byHand("Y", 2, "X"), byHand("Z", 9, "Z", "X")}, {byHand("X", 9, "Y", "X", "X")},
	} {
		if err := known().Add(someTypes(), l...); say(err) != "9: a name twice" {
			t.Errorf("%v: %s", l, say(err))
		}
	}
	// a method's name is no class', a class' name no method's
	up, of := byHand("X", 9, "Y"), byHand("X", 9, "m")
	up.Supers, of.Defaults = []string{"Y"}, []api.Bind{{Name: "X"}}
	for _, k := range []api.Class{up, of} {
		if err := known().Add(someTypes(), k); say(err) != "9: not a class, or not an instance" {
			t.Error(k, say(err))
		}
	}
}

// Each of the row is held against those ahead of it: the later one is amiss.
func TestTwiceTellsTheFirst(t *testing.T) {
	isTwice(t,
		"@class X a where { p :: a }; class A a where { }; class X a where { }",
		"class X a where { m :: a }; @class X a where { }; class Y a where { m :: a }",
		"class X a where { m :: a }; @class Y a where { m :: a }; class X a where { }",
		"class X a where { }; @class (A a, A a) => Y a where { }; class A a where { }",
		"@class A a where { }; class A a where { }",
		"@class (A a, A a) => A a where { p :: a; p :: a }; class A a where { }",
		"class X a where { m :: a }; @class X a where { m :: a }; class X a where { m :: a }",
		"class Y a where { m :: a; n :: a }; class X a where { }; @class Z a where { k :: a; n :: a }; class Y a where { }",
	)
}

// So each is looked at for names ahead of all else.
func TestTwiceAheadOfOthers(t *testing.T) {
	isTwice(t,
		"class Q a => X a where { }; @class A a where { }",
		"class X a => X a where { }; @class Y a where { q :: a }",
		"class Y a => X a where { }; class X a => Y a where { }; @class (X a, X a) => Z a where { }",
		"class X a where { m :: T a }; @class X a where { }",
		"class X a where { m :: Int a }; @class Y a where { m :: a }",
		"class X a where { m :: b }; @class (A a, A a) => Y a where { }",
		"class X a where { n = n }; @class D a where { }",
		"class X a where { m :: a; m = m; m = m }; @class Y a where { n :: a; n :: a }",
		"@class (Q a, Q a) => X a where { m :: T }",
		"@class Q a => X a where { m :: T; m :: Int a; m :: b; n = n }",
		"@class X a => A a where { m :: b; n = n; n = n }",
		"@class (X a, A a, A a) => X a where { m :: L }",
		"class (Q a, Y a) => X a where { m :: T }; class X a => Y a where { n :: b; k = k }; class Z a where { o :: L }; @class W a where { k :: Int a; o :: a }",
	)
}

// Those above may stand ahead in the row, behind in it, or be there from an earlier Add.
func TestSupersThatAreThere(t *testing.T) {
	isWell(t,
		"class A a => X a where { }",
		"class D a => X a where { }",
		"class (D a, A a, B a) => X a where { }",
		"class Y a => X a where { }; class Y a where { }",
		"class Y a where { }; class Y a => X a where { }",
		"class (Y a, A a, Z a) => X a where { }; class Z a => Y a where { }; class B a => Z a where { }",
		"class (Y a, Z a) => X a where { }; class W a => Y a where { }; class W a => Z a where { }; class W a where { }",
	)
	isNoClass(t,
		"@class Q a => X a where { }",
		"@class (A a, Q a) => X a where { }",
		"@class (Q a, A a) => X a where { }",
		"@class (A a, B a, Q a, D a) => X a where { }",
		"class Y a where { }; @class (Y a, Q a) => X a where { }; class Z a where { }",
		"class Y a => X a where { }; @class Q a => Y a where { }",
		"@class Y a => X a where { }; class Y' a where { }",
		"@class AA a => X a where { }",
		"@class L a => X a where { }",
		"@class Int a => X a where { }",
		"@class Q a => X a where { }; class V a => Y a where { }",
	)
}

// A class above itself is told where it stands, not where another one stands that is below it.
func TestAboveItself(t *testing.T) {
	isNoClass(t,
		"@class X a => X a where { }",
		"@class (A a, X a) => X a where { m :: a }",
		"@class (X a, A a) => X a where { }",
		"class Y a where { }; @class X a => X a where { }; class Z a where { }",
		"@class Y a => X a where { }; class X a => Y a where { }",
		"@class (A a, Y a) => X a where { }; class (B a, X a, D a) => Y a where { }",
		"class Z a where { }; @class Y a => X a where { }; class Z a => W a where { }; class X a => Y a where { }",
		"@class Y a => X a where { }; class Z a => Y a where { }; class X a => Z a where { }",
		"@class Z a => X a where { }; class X a => Y a where { }; class Y a => Z a where { }",
		"@class (A a, W a) => X a where { }; class (X a, B a) => Y a where { }; class Y a => Z a where { }; class (D a, Z a) => W a where { }",
		// what is below a ring, and what is above one, is none of it
		"class Y a => Z a where { }; @class Y a => Y a where { }",
		"class Y a => Z a where { }; @class X a => Y a where { }; class Y a => X a where { }",
		"class Z a => W a where { }; class Y a => Z a where { }; @class X a => Y a where { }; class Y a => X a where { }",
		"class W a where { }; @class (W a, Y a) => X a where { }; class (X a, W a) => Y a where { }",
		"class (X a, Y a) => W a where { }; class V a where { }; @class Y a => X a where { }; class Z a => Y a where { }; class (V a, X a) => Z a where { }",
		// two rings
		"class (Y a, Z a) => W a where { }; @class Z a => Y a where { }; class Y a => Z a where { }; class X a => X a where { }",
		"class (Y a, X a) => W a where { }; @class X a => X a where { }; class Z a => Y a where { }; class Y a => Z a where { }",
	)
	// one above by two ways is not above itself
	isWell(t, "class (Y a, Z a) => X a where { }; class Z a => Y a where { }; class A a => Z a where { }", "class Z a => Y a where { }; class Z a where { }; class (Z a, Y a) => X a where { }")
}

func TestAboveItselfAndOthers(t *testing.T) {
	isNoClass(t,
		"class Y a => X a where { }; @class (Q a, Y a) => Y a where { }",
		"@class Q a => X a where { }; class Y a => Y a where { }",
		"@class X a => X a where { }; class Q a => Y a where { }",
		"@class (Q a, Y a) => X a where { }; class X a => Y a where { }",
		"@class Y a => X a where { }; class (X a, Q a) => Y a where { }",
		"@class Y a => X a where { }; class X a => Y a where { m :: T }",
		"@class Y a => X a where { m :: T }; class X a => Y a where { n :: L }",
		"@class X a => X a where { m :: L }",
		"@class X a => X a where { m :: b; n = n }",
	)
	isNobodys(t, "@class Y a => Z a where { m :: T a }; class Y a => Y a where { }", "@class Y a => Z a where { m :: a -> T }; class X a => Y a where { }; class Y a => X a where { }")
	isKind(t, "@class Z a where { m :: L }; class Y a => X a where { }; class X a => Y a where { }")
}

// eachAmiss are types that are amiss, with what tells it.
func eachAmiss() map[string]error {
	return map[string]error{
		"Q": api.ErrScope, "(Q a)": api.ErrScope, "(Q a Int)": api.ErrScope, "N": api.ErrScope, "(C a (L a))": api.ErrScope, "A": api.ErrScope, "(X a)": api.ErrScope,
		"L": api.ErrKind, "(L a a)": api.ErrKind, "(L a Int b)": api.ErrKind, "P": api.ErrKind, "(P a)": api.ErrKind, "(P a b a)": api.ErrKind,
		"(U a)": api.ErrKind, "(U Int)": api.ErrKind, "(Int a)": api.ErrKind, "(Int Int)": api.ErrKind, "(Char a)": api.ErrKind, "(Char a a)": api.ErrKind,
	}
}

func TestMethodsTypesWhereverTheyStand(t *testing.T) {
	for _, around := range []string{
		"%", "L %", "P % a", "P a %", "% -> a", "a -> %", "b -> a -> %", "Int -> % -> a", "(a -> %) -> a", "(% -> b) -> a",
		"L (L %)", "L (a -> %)", "L % -> a", "P (L (a -> P a %)) Int", "P (L (P % a)) (a -> b)", "L (L (L %)) -> b -> Char",
	} {
		for _, row := range []string{
			"@class X a where { m :: ? }", "@class X a where { m :: a; n :: ? }", "@class X a where { m :: ?; n :: a }", "@class (A a, B a) => X a where { k :: L a; n :: b -> a; m :: ?; m = m }",
			"class Y a where { n :: a }; @class X a where { m :: ? }", "@class X a where { m :: ? }; class X a => Y a where { n :: a }", "class X a => Y a where { n :: a }; @class X a where { m :: ?; k :: a; k = m }; class Z a where { }",
		} {
			for amiss, err := range eachAmiss() {
				addFault(t, strings.Replace(row, "?", strings.Replace(around, "%", amiss, 1), 1), err)
			}
			for _, well := range []string{"a", "(L a)", "(P a Int)", "(P Char a)", "(a -> a)", "(L (P b (L a)) -> U)"} {
				isWell(t, strings.Replace(strings.Replace(row, "@", "", 1), "?", strings.Replace(around, "%", well, 1), 1))
			}
		}
	}
}

// Two that are amiss in one type: as cons.Kind tells them.
func TestTwoInOneType(t *testing.T) {
	isNobodys(t, "@class X a where { m :: a -> Q -> L }", "@class X a where { m :: P Q (Int a) }", "@class X a where { m :: Q L }", "@class X a where { m :: a -> (L Q -> Int b) }")
	isKind(t, "@class X a where { m :: a -> L -> Q }", "@class X a where { m :: P (Int a) Q }", "@class X a where { m :: L Q a }", "@class X a where { m :: a -> (L L -> Q b) }")
}

func TestVariableThatDoesNotStand(t *testing.T) {
	isNoClass(t,
		"@class X a where { m :: b }",
		"@class X a where { m :: Int }",
		"@class X a where { m :: b -> c -> L (P b Int) }",
		"@class X a where { m :: U -> L aa -> a' -> a1 }",
		"@class X a where { m :: a; n :: b }",
		"@class X a where { m :: b; n :: a }",
		"@class X b where { m :: a }",
		"@class A a => X a where { m :: a; n :: L a; k :: b -> b; o :: a }",
		"class X a where { m :: a }; @class Y b where { n :: a }",
		"class Y b where { n :: b }; @class X a where { m :: b }; class Z a where { }",
		"@class X aa where { m :: a -> a }",
	)
	isWell(t,
		"class X a where { m :: a }",
		"class X a where { m :: b -> a }",
		"class X a where { m :: a -> b }",
		"class X a where { m :: L (P b (Int -> L (c -> a))) -> U }",
		"class X b where { m :: a -> b }; class Y a where { n :: a -> b }",
		"class X aa where { m :: a -> aa }",
	)
}

func TestDefaultsOfOthers(t *testing.T) {
	isNoClass(t,
		"@class X a where { m = m }",
		"@class X a where { m :: a; n = m }",
		"@class X a where { m :: a; m = m; n = m }",
		"@class X a where { m :: a; n = m; m = m }",
		"@class X a where { n = m; m :: a }",
		"@class X a where { m :: a; m' = m }",
		"@class X a where { m' :: a; m = m' }",
		"@class X a where { (+) :: a; (-) = (+) }",
		"@class X a where { m :: a; p = m }",
		"@class A a => X a where { m :: a; q = m }",
		"@class (D a, B a) => X a where { r = r }",
		"class X a where { m :: a }; @class Y a where { n :: a; m = n }",
		"class X a where { m :: a; m = m }; @class X a => Y a where { n :: a; n = m; m = n }",
		"@class Y a => X a where { m :: a; n = m }; class Y a where { n :: a }",
	)
	// which expression it is, and whether a Default is there at all, is nothing to ask
	isWell(t, "class X a where { m :: a; n :: a; m = \\x y -> nobody (Nobody x 1) }", "class X a where { m :: a; n :: a; n = case x of { Q y y -> let { z = z; z = y } in z } }", "class X a where { n = m; m = n; m :: a; n :: a }")
}

func TestDefaultsTwice(t *testing.T) {
	isNoClass(t,
		"@class X a where { m :: a; m = m; m = m }",
		"@class X a where { m :: a; m = 1; m = 2 }",
		"@class X a where { m :: a; n :: a; m = m; n = m; m = n }",
		"@class X a where { m :: a; n :: a; n = m; m = m; m = n }",
		"@class X a where { m :: a; n :: a; k :: a; m = m; n = m; k = m; n = n }",
		"class X a where { m :: a; m = m }; @class Y a where { n :: a; n = n; n = n }",
		"@class X a where { n = m; m :: a; n = m; n :: a }",
	)
	isWell(t, "class X a where { m :: a; m = m }; class Y a where { n :: a; k :: a; k = m; n = m }")
}

// Two that are amiss in one class: those above it, its methods one by one, its Defaults.
func TestTwoInOneClass(t *testing.T) {
	isNoClass(t,
		"@class Q a => X a where { m :: T }",
		"@class Q a => X a where { m :: Int a }",
		"@class X a => X a where { m :: T a; n :: L }",
		"@class X a where { m :: b; n :: T }",
		"@class X a where { m :: b; n :: Int a }",
		"@class X a where { m :: a; n :: b -> c; k :: L }",
	)
	isNobodys(t,
		"@class X a where { m :: T; n :: b }",
		"@class X a where { m :: T; n :: L }",
		"@class X a where { m :: a -> T; n = m }",
		"@class X a where { m = m; m = m; m :: T }",
		"@class X a where { m :: T b }",
		"@class X a where { m :: b -> T }",
		"@class A a => X a where { m :: a; n :: T; n = m; n = n }",
	)
	isKind(t,
		"@class X a where { m :: L; n :: b }",
		"@class X a where { m :: L; n :: T }",
		"@class X a where { m :: L -> a; n = m }",
		"@class X a where { m = m; m = m; m :: Int b }",
		"@class X a where { m :: P b }",
		"@class X a where { k = k; m :: a; n :: b -> L }",
	)
}

// Two that are amiss in two classes: one by one.
func TestTwoInTwoClasses(t *testing.T) {
	isNoClass(t,
		"@class Q a => X a where { }; class Y a where { m :: T }",
		"@class X a => X a where { }; class Y a where { m :: L }",
		"@class X a where { m :: b }; class Y a where { n :: T }",
		"@class X a where { m :: a; n = m }; class Y a where { n :: T }",
		"@class X a where { m :: a; m = m; m = m }; class Y a where { n :: L }",
		"class Z a where { }; @class X a where { m :: b; p = 1 }; class Y a where { n :: T }",
		"@class X a where { k = k }; class Q a => Y a where { m :: T }",
	)
	isNobodys(t,
		"@class X a where { m :: T }; class Q a => Y a where { }",
		"@class X a where { m :: T }; class Y a => Y a where { }",
		"@class X a where { m :: T }; class Y a where { n :: b }",
		"@class X a where { m :: T }; class Y a where { n :: L }",
		"@class X a where { m :: T }; class Y a where { n = m }",
		"class X a where { k :: a }; @class Y a => Z a where { m :: L (a -> T) }; class Q a => Y a where { n :: Int a }",
	)
	isKind(t,
		"@class X a where { m :: L }; class Q a => Y a where { }",
		"@class X a where { m :: L }; class Y a => Y a where { }",
		"@class X a where { m :: L }; class Y a where { n :: b }",
		"@class X a where { m :: L }; class Y a where { n :: T }",
		"@class X a where { m :: L }; class Y a where { n = m; n = m }",
	)
}

// The types are those of the cons.Env that is handed in, each time, and no other ones.
func TestTypesOfTheCall(t *testing.T) {
	var e classes.Env
	var none, other cons.Env
	if err := other.Add(readProgram("data L = L; data T a b = T").Datas...); err != nil {
		t.Fatal(say(err))
	}
	for i, x := range []struct {
		c    *cons.Env
		text string
		want string
	}{
		{&none, "class X a where { m :: L a }", "0: a name that is nobody's"},
		{&other, "class X a where { m :: L a }", "0: a type with other arguments"},
		{someTypes(), "class X a where { m :: L a }", "nothing"},
		{someTypes(), "class Y a where { n :: L -> a }", "0: a type with other arguments"},
		{&other, "class Y a where { n :: L -> a }", "nothing"},
		{&none, "class Z a where { k :: L -> a }", "0: a name that is nobody's"},
		{&none, "class Z a where { k :: Char -> a -> Int }", "nothing"},
	} {
		if err := e.Add(x.c, readClasses(x.text)...); say(err) != x.want {
			t.Errorf("%d: %s; want %s", i, say(err), x.want)
		}
	}
	if len(e.Classes()) != 3 || len(none.Datas()) != 0 || len(other.Datas()) != 2 {
		t.Error(e.Classes())
	}
}

// An error leaves nothing: each name of the row may be had again.
func TestAddAgain(t *testing.T) {
	e, c := known(), someTypes()
	for _, text := range []string{
		"class X a where { m :: a }; class Q a => Y a where { n :: a }", "class Y a where { n :: a; p :: a }", "class X a where { m :: a }; class Y a => Z a where { n :: T }", "class X a where { }; class Y a where { m :: a }; class X a where { n :: a }",
		"class Y a => X a where { m :: a }; class X a => Y a where { n :: a }", "class X a where { m :: a; n = m }", "class Y a where { n :: b }", "class (X a, X a) => Z a where { m :: a }; class X a where { }", "class Z a where { m :: a; m = m; m = m }",
	} {
		if err := e.Add(c, readClasses(text)...); err == nil {
			t.Error(text)
		}
	}
	if err := e.Add(c, readClasses("class X a => Z a where { k :: a }")...); say(err) != "0: not a class, or not an instance" {
		t.Error(say(err))
	}
	for _, text := range []string{"class X b => Y b where { n :: b; m :: L b }; class A a => X a where { k :: a; k = m }", "class (Y c, D c) => Z c where { o :: c -> d }"} {
		if err := e.Add(c, readClasses(text)...); err != nil {
			t.Error(say(err))
		}
	}
	want := with(knownText + "; class X b => Y b where { n :: b; m :: L b }; class A a => X a where { k :: a; k = m }; class (Y c, D c) => Z c where { o :: c -> d }")
	if len(e.Classes()) != 6 || tellPlaceless(e) != tellPlaceless(want) {
		t.Error(tell(e))
	}
	for text, want := range map[string]string{
		"class W a where { m :: a }": "0: a name twice", "; class Y a where { }": "2: a name twice", "class (Z a, X a, A a) => W a where { m' :: L Z }": "0: a name that is nobody's", "class W a where { k = k }": "0: not a class, or not an instance",
	} {
		if err := e.Add(c, readClasses(text)...); say(err) != want {
			t.Errorf("%s: %s; want %s", text, say(err), want)
		}
	}
}

// placeless takes an expression's places away.
func placeless(e *api.Expr) {
	e.Pos = 0
	for i := range e.L {
		placeless(&e.L[i])
	}
}

// tellPlaceless is tell of classes whose places are all 0.
func tellPlaceless(e *classes.Env) string {
	l := e.Classes()
	for i := range l {
		l[i].Pos = 0
		for j := range l[i].Defaults {
			l[i].Defaults[j].Pos = 0
			placeless(&l[i].Defaults[j].Body)
		}
	}
	var same classes.Env
	if err := same.Add(someTypes(), l...); err != nil {
		return say(err)
	}
	return tell(&same)
}

// One by one, or all at once: what is there is the same, where each stands behind all that are above it.
func TestRowByRow(t *testing.T) {
	text := knownText + "; class D a => X a where { m :: a; n :: L a; m = n }; class Y a where { k :: P a b }; class (Y a, A a, X a) => Z a where { }"
	var e classes.Env
	for _, k := range readClasses(text) {
		if err := e.Add(someTypes(), k); err != nil {
			t.Error(k, say(err))
		}
	}
	if all := with(text); tell(&e) != tell(all) {
		t.Errorf("%s; want %s", tell(&e), tell(all))
	}
}

// Each Env has its own.
func TestEnvsAreApart(t *testing.T) {
	var first, second, third classes.Env
	c, empty := someTypes(), tell(&third)
	for i, x := range []struct {
		e    *classes.Env
		text string
		want string
	}{
		{&first, "class X a where { m :: a }", "nothing"},
		{&second, "class Y a where { m :: L a; n :: a }", "nothing"},
		{&second, "class X a => Z a where { }", "0: not a class, or not an instance"},
		{&first, "class X a => Y a where { n :: a }", "nothing"},
		{&second, "class Y a => X a where { }", "nothing"},
	} {
		if err := x.e.Add(c, readClasses(x.text)...); say(err) != x.want {
			t.Errorf("%d: %s; want %s", i, say(err), x.want)
		}
	}
	if tellPlaceless(&first) != tellPlaceless(with("class X a where { m :: a }; class X a => Y a where { n :: a }")) {
		t.Error(tell(&first))
	}
	if tellPlaceless(&second) != tellPlaceless(with("class Y a where { m :: L a; n :: a }; class Y a => X a where { }")) {
		t.Error(tell(&second))
	}
	if tell(&third) != empty {
		t.Error(tell(&third))
	}
}
