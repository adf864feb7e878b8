package cons_test

import (
	"strings"
	"testing"

	"paideia/api"
	"paideia/cons"
)

// isOfKind asks for Kind's answer of each text's type: the error alone, with no place around.
func isOfKind(t *testing.T, e *cons.Env, want error, texts ...string) {
	t.Helper()
	for _, text := range texts {
		if got := e.Kind(readType(text)); got != want {
			t.Errorf("%s: %v; want %v", text, got, want)
		}
	}
}

func TestKindOfWhatIsAlwaysThere(t *testing.T) {
	var e cons.Env
	isOfKind(t, &e, nil, "Int", "Char", "a", "Int -> Char", "(Int -> a) -> Char -> b")
	isOfKind(t, &e, api.ErrKind, "Int a", "Char Int", "Int Int Int", "Int -> Char a")
	isOfKind(t, &e, api.ErrScope, "Unit", "L a", "Bool", "List Int", "Int -> Unit", "Ints", "In", "Chars")
}

func TestKindOfConstructors(t *testing.T) {
	e := known()
	isOfKind(t, e, nil, "U", "L a", "L Int", "P a b", "P U Char", "L (L (L a))", "P (P a b) (L (P Int U))")
	isOfKind(t, e, api.ErrKind, "L", "L a b", "L a b c", "P", "P a", "P a b c", "U a", "U U", "L (L a) U", "P (P a b)")
	isOfKind(t, e, api.ErrScope, "Q", "Q a", "Q a b", "N", "C a (L a)", "L'", "LL", "Us")
}

// Whatever variables there are, nothing is amiss with them.
func TestKindOfVariables(t *testing.T) {
	for _, e := range []*cons.Env{{}, known()} {
		isOfKind(t, e, nil, "a", "b", "x'", "l", "int", "a -> b", "a -> b -> a", "(a -> z) -> y")
	}
	isOfKind(t, known(), nil, "L x", "P y x", "L (x -> P z1 (L z2))")
}

func TestKindWhereverItStands(t *testing.T) {
	e := known()
	for _, around := range []string{
		"%", "L %", "P % a", "P a %", "% -> a", "a -> %", "a -> % -> b", "a -> b -> %", "(a -> %) -> b", "(% -> a) -> b", "L (L %)", "P Int (a -> L %)", "L (P (L % -> U) c)", "L a -> (P U U -> P a %) -> Char",
	} {
		put := func(text string) string { return strings.Replace(around, "%", "("+text+")", 1) }
		for _, text := range []string{"a", "Int", "U", "L a", "P a Int", "a -> Char"} {
			isOfKind(t, e, nil, put(text))
		}
		for _, text := range []string{"L", "L a b", "U a", "Int a", "Char Char", "P", "P a", "P a b c"} {
			isOfKind(t, e, api.ErrKind, put(text))
		}
		for _, text := range []string{"Q", "Q a", "N", "C a b", "P'"} {
			isOfKind(t, e, api.ErrScope, put(text))
		}
	}
}

// Part by part, in the order that types.All has: each ahead of its own arguments, these from the left.
func TestKindTellsTheFirst(t *testing.T) {
	e := known()
	isOfKind(t, e, api.ErrScope, "Q -> L", "P Q L", "Q L", "L (Q L)", "L (L (Q L))", "P (L Q) L", "P (L Q) (Int a)", "a -> Q -> L", "(a -> Q) -> L", "P a Q -> L", "Q (Int a) (Q L)", "L (L (L Q)) -> L", "(L Q -> L) -> L")
	isOfKind(t, e, api.ErrKind, "L -> Q", "P L Q", "L Q Q", "Int Q", "L (Int (Q a))", "L (L (U (Q a)))", "P (L L) Q", "P (L L) (Q a)", "a -> L -> Q", "(a -> L) -> Q", "P a L -> Q", "P Q", "P Q Q Q", "L (L (L L)) -> Q", "(L L -> Q) -> Q")
}

// What was added is there, from then on.
func TestKindBehindAdd(t *testing.T) {
	var e cons.Env
	isOfKind(t, &e, api.ErrScope, "T a", "T", "V")
	if err := e.Add(readDatas("data T a = X V; data V = Y")...); err != nil {
		t.Fatal(say(err))
	}
	isOfKind(t, &e, nil, "T a", "T V", "V", "T (T b)")
	isOfKind(t, &e, api.ErrKind, "T", "V a", "T a a")
	if err := e.Add(readDatas("data W = W; data T = X")...); err == nil {
		t.Error("nothing")
	}
	isOfKind(t, &e, api.ErrScope, "W", "T W", "X", "Y")
	isOfKind(t, &e, api.ErrKind, "T")
	isOfKind(t, &e, nil, "T a")
}
