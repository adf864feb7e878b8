package match_test

import (
	"reflect"
	"slices"
	"strings"
	"testing"

	"paideia/api"
	"paideia/match"
	"paideia/parser"
	"paideia/printer"
	"paideia/subst"
	"paideia/types"
)

// Types as the document draws them, made without the packages that are tested.

func tvar(name string) api.Type { return api.Type{Kind: api.TVar, Name: name} }

func tcon(name string, args ...api.Type) api.Type {
	return api.Type{Kind: api.TCon, Name: name, Args: args}
}

func tfun(from, to api.Type) api.Type {
	return api.Type{Kind: api.TFun, Args: []api.Type{from, to}}
}

// read is a type from its text.
func read(text string) api.Type {
	t, err := parser.Type([]byte(text))
	if err != nil {
		panic(text + ": " + err.Error())
	}
	return t
}

// readTwo are the types of a text such as `a -> b ~ T`.
func readTwo(text string) (api.Type, api.Type) {
	a, b, found := strings.Cut(text, "~")
	if !found {
		panic(text)
	}
	return read(a), read(b)
}

// say is what Match answers: the types, by names; or no.
func say(s subst.Subst, is bool) string {
	if !is {
		return "no"
	}
	var l []string
	for name, t := range s.Pairs() {
		l = append(l, name+" = "+printer.Type(t))
	}
	return strings.Join(l, "; ")
}

func show(a, b api.Type) string { return printer.Type(a) + " ~ " + printer.Type(b) }

// answer is what Match answers, held against what all its answers obey.
func answer(t *testing.T, a, b api.Type) (subst.Subst, bool) {
	t.Helper()
	s, is := match.Match(a, b)
	if !is {
		if !reflect.DeepEqual(s, subst.Subst{}) {
			t.Errorf("%s: beside a false: %s", show(a, b), say(s, true))
		}
		return s, is
	}
	if got := s.Apply(a); !types.Same(got, b) {
		t.Errorf("%s: %s makes %s", show(a, b), say(s, is), printer.Type(got))
	}
	names := types.Vars(a)
	for name, x := range s.Pairs() {
		if !slices.Contains(names, name) || types.Same(x, tvar(name)) {
			t.Errorf("%s: %s: %s has a type", show(a, b), say(s, is), name)
		}
	}
	return s, is
}

// asked holds Match's answers against those that are asked for: `a ~ T b` and what say tells, by turns.
func asked(t *testing.T, texts ...string) {
	t.Helper()
	for i := 0; i < len(texts); i += 2 {
		a, b := readTwo(texts[i])
		if got := say(answer(t, a, b)); got != texts[i+1] {
			t.Errorf("%s: %s; want %s", texts[i], got, texts[i+1])
		}
	}
}

// oneWay asks for types this way round, and for none the other one.
func oneWay(t *testing.T, texts ...string) {
	t.Helper()
	asked(t, texts...)
	for i := 0; i < len(texts); i += 2 {
		a, b := readTwo(texts[i])
		if got := say(answer(t, b, a)); got != "no" {
			t.Errorf("%s: the other way round: %s", texts[i], got)
		}
		if match.Both(a, b) || match.Both(b, a) {
			t.Errorf("%s: Both", texts[i])
		}
	}
}

// neither asks for types neither way round.
func neither(t *testing.T, texts ...string) {
	t.Helper()
	for _, text := range texts {
		oneWay(t, text, "no")
	}
}

// bothWays holds Match's answers of both ways round against those that are asked for, in this order behind the types; and asks for Both.
func bothWays(t *testing.T, texts ...string) {
	t.Helper()
	for i := 0; i < len(texts); i += 3 {
		a, b := readTwo(texts[i])
		asked(t, texts[i], texts[i+1], show(b, a), texts[i+2])
		if !match.Both(a, b) || !match.Both(b, a) {
			t.Errorf("%s: not Both", texts[i])
		}
	}
}

func TestVariableOnce(t *testing.T) {
	oneWay(t,
		"a ~ T", "a = T",
		"a ~ T b", "a = T b",
		"a ~ T b b (U c -> V)", "a = T b b (U c -> V)",
		"a ~ b -> b", "a = b -> b",
		"a ~ T a", "a = T a",
		"a ~ a -> a", "a = a -> a",
		"T a ~ T U", "a = U",
		"T a U ~ T V U", "a = V",
		"a -> T ~ U -> T", "a = U",
		"T -> a ~ T -> U", "a = U",
		"T -> a ~ T -> U -> V", "a = U -> V",
		"T (U (V a)) ~ T (U (V (T b)))", "a = T b",
		"a -> b -> c ~ T -> U a -> b -> V", "a = T; b = U a; c = b -> V",
		"P c b a ~ P T U V", "a = V; b = U; c = T",
		"P a b ~ P (T b) (U a)", "a = T b; b = U a", // at once: a's type is not looked at again
		"P a b ~ P b T", "a = b; b = T",
		"P b a ~ P (T a) b", "a = b; b = T a",
	)
}

// Match of a and anything: yes.
func TestVariableAndAnything(t *testing.T) {
	a := tvar("a")
	for _, text := range []string{"b", "T", "T a", "T b", "T a a U", "a -> a", "b -> a", "(a -> b) -> c", "a -> b -> c", "T (U (V a) -> b)"} {
		x := read(text)
		s, is := answer(t, a, x)
		if got, found := s.Get("a"); !is || !found || s.Len() != 1 || !types.Same(got, x) {
			t.Errorf("%s: %s", text, say(s, is))
		}
	}
}

func TestVariableSeveralTimes(t *testing.T) {
	oneWay(t,
		"P a a ~ P T T", "a = T",
		"P a a ~ P (T b) (T b)", "a = T b",
		"a -> a ~ (b -> c) -> b -> c", "a = b -> c",
		"a -> T a ~ U -> T U", "a = U",
		"P a (T b a) b ~ P U (T V U) V", "a = U; b = V",
		"a -> b -> a -> b -> a ~ T -> U -> T -> U -> T", "a = T; b = U",
		"T (U (V a)) a ~ T (U (V (W b -> c))) (W b -> c)", "a = W b -> c",
		"P a a ~ P (T a) (T a)", "a = T a",
		"P a b ~ P T T", "a = T; b = T",
		"P a b ~ P (T c) (T c)", "a = T c; b = T c",
	)
	neither(t,
		"P a a ~ P T U",
		"P a a ~ P T (T U)",
		"P a a ~ P (T U) (T V)",
		"P a a ~ P (T b) (T c)",
		"P a a ~ P (T b b) (T b c)",
		"P a a ~ P T b", // b is as a constructor, and not as a variable that is T
		"P a a ~ P b T",
		"P a a ~ P (T b) (T U)",
		"P a a ~ P (T U) (T b)",
		"a -> a ~ (b -> c) -> c -> b",
		"a -> a ~ b -> b -> b",
		"P a a a ~ P T T U",
		"P a a a ~ P T U T",
		"P a a a ~ P U T T",
		"P a b a b ~ P T U T V",
		"P a b b a ~ P T U V T",
		"T (U (V a)) a ~ T (U (V W)) X",
		"P a a ~ P T (b -> c)",
	)
	// what differs is met at each place, however deep
	neither(t,
		"P a a ~ P (T (U (V b W))) (T (U (V b X)))",
		"P a a ~ P (T (U (V b W))) (T (U (V c W)))",
		"P a a ~ P (T b -> U c) (T b -> U b)",
	)
}

// The second type's variables are as constructors: there is nothing that they become.
func TestVariablesOfTheSecond(t *testing.T) {
	oneWay(t,
		"P a b ~ P c c", "a = c; b = c",
		"a -> b ~ c -> c", "a = c; b = c",
		"P a b c ~ P d e d", "a = d; b = e; c = d",
		"P a b ~ P a a", "b = a",
		"P a b ~ P b b", "a = b",
	)
	bothWays(t,
		"a ~ b", "a = b", "b = a",
		"T a ~ T b", "a = b", "b = a",
		"P a a ~ P b b", "a = b", "b = a",
		"a -> T b ~ c -> T d", "a = c; b = d", "c = a; d = b",
	)
	asked(t,
		"T ~ a", "no",
		"T a ~ a", "no",
		"T a ~ b", "no",
		"a -> a ~ a", "no",
		"a -> b ~ c", "no",
		"P T ~ P a", "no",
		"P T a ~ P b a", "no",
		"T -> U ~ T -> a", "no",
		"P a a ~ P a b", "no",
		"P a a ~ P b a", "no",
		"P a a ~ P b c", "no",
		"P a T ~ P T b", "no",
		"P a (T b) ~ P (T c) d", "no",
	)
	neither(t,
		"P a T ~ P T a",
		"P a T ~ P T b",
		"P a (T b) ~ P (T b) a",
		"P a a T ~ P b c b",
	)
}

// The names of the first's variables are not the second's: though they are written the same.
func TestVariablesOfTheSameNames(t *testing.T) {
	bothWays(t,
		"P a b ~ P b a", "a = b; b = a", "a = b; b = a",
		"a -> b ~ b -> a", "a = b; b = a", "a = b; b = a",
		"P a b c ~ P b c a", "a = b; b = c; c = a", "a = c; b = a; c = b",
		"P a b ~ P b c", "a = b; b = c", "b = a; c = b",
		"P a b ~ P c a", "a = c; b = a", "a = b; c = a",
	)
	oneWay(t,
		"P a b ~ P (T a) (T b)", "a = T a; b = T b",
		"P a b ~ P (T b) (T a)", "a = T b; b = T a",
		"P a a ~ P (T a b) (T a b)", "a = T a b",
		"P a b ~ P b (a -> b)", "a = b; b = a -> b",
	)
}

// A variable that is given itself has no type; but it has become something, and can become nothing else.
func TestVariableItself(t *testing.T) {
	bothWays(t,
		"a ~ a", "", "",
		"P a b a ~ P a b a", "", "",
		"a -> a ~ a -> a", "", "",
		"T a (b -> U a) ~ T a (b -> U a)", "", "",
		"P a b ~ P a c", "b = c", "c = b",
		"P a b c ~ P b a c", "a = b; b = a", "a = b; b = a",
	)
	oneWay(t,
		"P a b ~ P a T", "b = T",
		"P a b ~ P a a", "b = a",
		"a -> b -> a ~ a -> a -> a", "b = a",
		"P a b a ~ P a (T a) a", "b = T a",
	)
	neither(t,
		"P a a ~ P a T",
		"P a a ~ P T a",
		"P a a ~ P a (T a)",
		"P a a a ~ P a a T",
		"a -> a ~ a -> a -> a",
		"P a b a ~ P a T b",
	)
	asked(t,
		"P a a ~ P a b", "no",
		"P a a ~ P b a", "no",
		"P a a a ~ P a a b", "no",
		"P a b b ~ P a b a", "no",
	)
}

func TestConstructors(t *testing.T) {
	bothWays(t,
		"T ~ T", "", "",
		"T U V ~ T U V", "", "",
		"T (U V) (W X -> Y) ~ T (U V) (W X -> Y)", "", "",
	)
	neither(t,
		"T ~ U",
		"T ~ T'",
		"T ~ Tt",
		"T ~ T a",
		"T ~ T U",
		"T a ~ T a b",
		"T a b ~ T a b c",
		"T U ~ T U U",
		"T a ~ U a",
		"T a ~ U b",
		"T a b ~ U a b",
		"T U ~ T V",
		"T U V ~ T U W",
		"T U V ~ T W V",
		"T U V ~ T V U",
		"T (U a) ~ T (V a)",
		"T (U a) ~ T (U a b)",
		"T (U a) ~ T U",
		"T a (U b) ~ T V (W c)",
		"T a b U ~ T V W V",
	)
}

func TestFunctions(t *testing.T) {
	bothWays(t,
		"T -> U ~ T -> U", "", "",
		"(T -> U) -> V ~ (T -> U) -> V", "", "",
		"a -> b -> a ~ c -> d -> c", "a = c; b = d", "c = a; d = b",
		"(a -> b) -> c ~ (c -> b) -> a", "a = c; c = a", "a = c; c = a",
	)
	oneWay(t,
		"a -> b ~ T -> U", "a = T; b = U",
		"a -> b ~ T -> U -> V", "a = T; b = U -> V",
		"a -> b ~ (T -> U) -> V", "a = T -> U; b = V",
		"a -> b -> c ~ T -> U -> V -> W", "a = T; b = U; c = V -> W",
		"(a -> b) -> c ~ (T -> U) -> V -> W", "a = T; b = U; c = V -> W",
	)
	neither(t,
		"T -> U ~ T -> V",
		"T -> U ~ V -> U",
		"T -> U ~ U -> T",
		"T -> U -> V ~ (T -> U) -> V",
		"(T -> T) -> T ~ T -> T -> T",
		"a -> b -> T ~ (T -> U) -> V",
		"a -> T ~ U -> V -> T",
	)
}

func TestFunctionAndConstructor(t *testing.T) {
	neither(t,
		"T ~ a -> b",
		"T a ~ a -> b",
		"T a b ~ a -> b",
		"T a b ~ c -> d",
		"T U V ~ U -> V",
		"P (T a b) ~ P (c -> d)",
		"P a (T b c) ~ P U (b -> c)",
		"T -> U a b ~ T -> a -> b",
	)
	// whatever the constructor's name is
	for _, name := range []string{"", "->", "a"} {
		fun, con := read("a -> b"), tcon(name, tvar("a"), tvar("b"))
		if s, is := answer(t, fun, con); is {
			t.Error(name, say(s, is))
		}
		if s, is := answer(t, con, fun); is {
			t.Error(name, say(s, is))
		}
		if match.Both(fun, con) || match.Both(con, fun) {
			t.Error(name)
		}
	}
}

// A constructor of a variable's name is none.
func TestConstructorNamedAsVariable(t *testing.T) {
	a, b := tvar("a"), tcon("a")
	if s, is := answer(t, a, b); !is || s.Len() != 1 {
		t.Error(say(s, is))
	}
	for i, x := range [][2]api.Type{
		{b, a}, {tcon("T", b), tcon("T", a)}, {tcon("T", a, a), tcon("T", a, b)}, {tcon("T", a, a), tcon("T", b, a)},
	} {
		if s, is := answer(t, x[0], x[1]); is {
			t.Error(i, say(s, is))
		}
		if match.Both(x[0], x[1]) {
			t.Error(i)
		}
	}
}

// Wherever they differ there are no types, and none of those that were found ahead is told.
func TestNothingBesideFalse(t *testing.T) {
	neither(t,
		"P a b c T ~ P U V W X",
		"P T a b c ~ P X U V W",
		"P a (Q b T) c ~ P U (Q V X) W",
		"a -> b -> T ~ U -> V -> X",
		"P a b c a ~ P U V W X",
	)
}

func TestBoth(t *testing.T) {
	for text, want := range map[string]bool{
		"a ~ a":                 true,
		"a ~ b":                 true,
		"T ~ T":                 true,
		"a ~ T":                 false,
		"T ~ a":                 false,
		"T ~ U":                 false,
		"T a ~ T b":             true,
		"T a ~ U a":             false,
		"T a ~ T a a":           false,
		"T a ~ a":               false,
		"a -> b ~ b -> a":       true,
		"a -> b ~ c -> d":       true,
		"a -> b ~ b -> c":       true,
		"a -> b ~ a -> a":       false,
		"a -> a ~ a -> b":       false,
		"a -> b ~ c -> c":       false,
		"a -> b ~ P a b":        false,
		"P a b a ~ P c a c":     true,
		"P a b a ~ P b a b":     true,
		"P a b a ~ P b a a":     false,
		"P a b a ~ P a a b":     false,
		"P a b b ~ P b a b":     false,
		"P a b c ~ P c a b":     true,
		"P a b c ~ P c a c":     false,
		"P a T ~ P T a":         false,
		"P a T ~ P b T":         true,
		"P a T ~ P b U":         false,
		"P a T ~ P T T":         false,
		"P a (T b) ~ P (T b) a": false,
		"P a b ~ P (T a) b":     false,
		"P a b ~ P b (T a)":     false,
		"(a -> b) -> T a -> T b ~ (x -> y) -> T x -> T y": true,
		"(a -> b) -> T a -> T b ~ (b -> a) -> T b -> T a": true,
		"(a -> b) -> T a -> T b ~ (a -> b) -> T b -> T a": false,
		"(a -> b) -> c ~ a -> b -> c":                     false,
	} {
		a, b := readTwo(text)
		_, is := answer(t, a, b)
		_, back := answer(t, b, a)
		if match.Both(a, b) != want || match.Both(b, a) != want || (is && back) != want {
			t.Errorf("%s: Match: %t, %t; Both: %t, %t", text, is, back, match.Both(a, b), match.Both(b, a))
		}
	}
}
