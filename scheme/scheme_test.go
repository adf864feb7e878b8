package scheme_test

import (
	"math"
	"slices"
	"strings"
	"testing"

	"paideia/api"
	"paideia/parser"
	"paideia/printer"
	"paideia/scheme"
	"paideia/types"
)

// Types as the document draws them, made without the packages that are tested.

func tvar(name string) api.Type { return api.Type{Kind: api.TVar, Name: name} }

func tcon(name string, args ...api.Type) api.Type {
	return api.Type{Kind: api.TCon, Name: name, Args: args}
}

func tfun(from, to api.Type) api.Type {
	return api.Type{Kind: api.TFun, Args: []api.Type{from, to}}
}

func pred(class string, t api.Type) api.Pred { return api.Pred{Class: class, Type: t} }

// read is a scheme from a text such as `a b . Eq a => a -> b`: ahead of the point stand Vars, whatever stands behind it.
func read(text string) api.Scheme {
	vars, rest, found := strings.Cut(text, ".")
	if !found {
		panic(text)
	}
	s, err := parser.Scheme([]byte(rest))
	if err != nil {
		panic(text + ": " + err.Error())
	}
	s.Vars = strings.Fields(vars)
	return s
}

// preds is a context from a text such as `Eq a, Ord (T b)`.
func preds(text string) []api.Pred {
	if text == "" {
		return nil
	}
	return read(". (" + text + ") => T").Context
}

// say is a scheme as read takes it.
func say(s api.Scheme) string {
	return strings.TrimSpace(strings.Join(s.Vars, " ") + " . " + printer.Scheme(s))
}

// sayPreds is a context as preds takes it.
func sayPreds(l []api.Pred) string {
	var texts []string
	for _, p := range l {
		text := printer.Scheme(api.Scheme{Context: []api.Pred{p}, Type: tcon("T")})
		texts = append(texts, strings.TrimSuffix(text, " => T"))
	}
	return strings.Join(texts, ", ")
}

// is asks for a scheme.
func is(t *testing.T, got api.Scheme, want string) {
	t.Helper()
	if text := say(got); text != want {
		t.Errorf("%s; want %s", text, want)
	}
}

func areNames(t *testing.T, got []string, want ...string) {
	t.Helper()
	if !slices.Equal(got, want) {
		t.Errorf("%q; want %q", got, want)
	}
}

func TestName(t *testing.T) {
	for i, want := range map[int]string{
		0: "a", 1: "b", 12: "m", 24: "y", 25: "z",
		26: "a1", 27: "b1", 38: "m1", 50: "y1", 51: "z1",
		52: "a2", 53: "b2", 77: "z2", 78: "a3",
		259: "z9", 260: "a10", 285: "z10", 286: "a11",
		2599: "z99", 2600: "a100",
		1 << 31:            "y82595524", // 2^31 = 26 * 82595524 + 24
		math.MaxInt64:      "h354745078340568300",
		math.MaxInt64 - 7:  "a354745078340568300",
		math.MaxInt64 - 8:  "z354745078340568299",
		math.MaxInt64 - 33: "a354745078340568299",
	} {
		if got := scheme.Name(i); got != want {
			t.Errorf("%d: %s; want %s", i, got, want)
		}
	}
}

func TestNameBelowTheFirst(t *testing.T) {
	for _, i := range []int{-1, -2, -25, -26, -27, -52, -1 << 31, math.MinInt64, math.MinInt64 + 1} {
		if got := scheme.Name(i); got != "a" {
			t.Errorf("%d: %s", i, got)
		}
	}
}

// Each name is another one, and a variable's.
func TestNamesAreApart(t *testing.T) {
	seen := map[string]bool{}
	for i := range 20000 {
		name := scheme.Name(i)
		x, err := parser.Type([]byte(name))
		if seen[name] || err != nil || !types.Same(x, tvar(name)) {
			t.Fatal(i, name)
		}
		seen[name] = true
	}
}

func TestSortPreds(t *testing.T) {
	for text, want := range map[string]string{
		"":            "",
		"Eq a":        "Eq a",
		"Eq T":        "Eq T",
		"Eq a, Eq a":  "Eq a",
		"Ord a, Eq a": "Eq a, Ord a",
		"Eq a, Ord a": "Eq a, Ord a",
		"Ord a, Eq b": "Eq b, Ord a", // the class is ahead of the type
		"Ea b, Ee a":  "Ea b, Ee a",
		"Eq b, Eq a":  "Eq a, Eq b",
		"Ord T, Eq T": "Eq T, Ord T",
	} {
		if got := sayPreds(scheme.SortPreds(preds(text))); got != want {
			t.Errorf("%s: %s; want %s", text, got, want)
		}
	}
}

// One class: as types.Compare has it, by kind, name, how many arguments, and these.
func TestSortPredsOfOneClass(t *testing.T) {
	for text, want := range map[string]string{
		"Eq (a -> b), Eq T, Eq a":               "Eq a, Eq T, Eq (a -> b)",
		"Eq T, Eq z":                            "Eq z, Eq T",
		"Eq (a -> a), Eq (Z a)":                 "Eq (Z a), Eq (a -> a)",
		"Eq b1, Eq b, Eq a2, Eq a10, Eq a":      "Eq a, Eq a10, Eq a2, Eq b, Eq b1",
		"Eq a', Eq a_, Eq aa, Eq a0, Eq _a":     "Eq _a, Eq a', Eq a0, Eq a_, Eq aa",
		"Eq U, Eq (T a b), Eq (T c), Eq T":      "Eq T, Eq (T c), Eq (T a b), Eq U",
		"Eq (T b a), Eq (T a c), Eq (T a b)":    "Eq (T a b), Eq (T a c), Eq (T b a)",
		"Eq (T T), Eq (T a), Eq (T (a -> a))":   "Eq (T a), Eq (T T), Eq (T (a -> a))",
		"Eq (b -> a), Eq (a -> T), Eq (a -> b)": "Eq (a -> b), Eq (a -> T), Eq (b -> a)",
		"Eq (T (U b)), Eq (T (U a))":            "Eq (T (U a)), Eq (T (U b))",
	} {
		if got := sayPreds(scheme.SortPreds(preds(text))); got != want {
			t.Errorf("%s: %s; want %s", text, got, want)
		}
	}
}

// Classes byte by byte, whatever their types are; one that another one begins with stands ahead of it.
func TestSortPredsOfSeveralClasses(t *testing.T) {
	for text, want := range map[string]string{
		"Eqs a, Eq b, E c":                      "E c, Eq b, Eqs a",
		"Eq1 a, Eq' a, Eq a, EqA a, Eq_ a":      "Eq a, Eq' a, Eq1 a, EqA a, Eq_ a",
		"Eqa a, EqZ b":                          "EqZ b, Eqa a",
		"Eq10 a, Eq9 a, Eq1 a":                  "Eq1 a, Eq10 a, Eq9 a",
		"Show (a -> b), Ord T, Num a, Eq (T U)": "Eq (T U), Num a, Ord T, Show (a -> b)",
		"Ord a, Eq T, Ord T, Eq a":              "Eq a, Eq T, Ord a, Ord T",
	} {
		if got := sayPreds(scheme.SortPreds(preds(text))); got != want {
			t.Errorf("%s: %s; want %s", text, got, want)
		}
	}
	l := scheme.SortPreds([]api.Pred{pred("\xff", tvar("a")), pred("\x80", tvar("a")), pred("z", tvar("a")), pred("é", tvar("a")), pred("A", tvar("a")), pred("", tvar("b")), pred("A\x00", tvar("a"))})
	var classes []string
	for _, p := range l {
		classes = append(classes, p.Class)
	}
	areNames(t, classes, "", "A", "A\x00", "z", "\x80", "é", "\xff")
}

func TestSortPredsEachOnce(t *testing.T) {
	for text, want := range map[string]string{
		"Eq a, Eq a, Eq a":                               "Eq a",
		"Eq a, Ord a, Eq a":                              "Eq a, Ord a",
		"Ord b, Eq a, Ord b, Eq a, Ord b":                "Eq a, Ord b",
		"Eq (T a), Eq (T b), Eq (T a)":                   "Eq (T a), Eq (T b)",
		"Eq (a -> b), Eq a, Eq (a -> b), Eq (b -> a)":    "Eq a, Eq (a -> b), Eq (b -> a)",
		"Eq (T (U a b)), Eq (T (U a c)), Eq (T (U a b))": "Eq (T (U a b)), Eq (T (U a c))",
		"Eq a, Eqs a, Eq a, E a":                         "E a, Eq a, Eqs a",
		"Eq a, Eq b, Eq c":                               "Eq a, Eq b, Eq c", // one class is not one pred
		"Eq a, Num a, Ord a":                             "Eq a, Num a, Ord a",
	} {
		if got := sayPreds(scheme.SortPreds(preds(text))); got != want {
			t.Errorf("%s: %s; want %s", text, got, want)
		}
	}
}

func TestFree(t *testing.T) {
	for text, want := range map[string]string{
		". T":                          "",
		". a":                          "a",
		"a . a":                        "",
		"b . a":                        "a",
		". T -> U (V W)":               "",
		". b -> a":                     "b a", // as they come, not by names
		". b -> a -> b -> a":           "b a",
		". (c -> T b) -> a":            "c b a",
		". T (U z y) x -> y":           "z y x",
		"a . b -> a":                   "b",
		"a b . b -> a":                 "",
		"b a . c -> b -> d -> a -> e":  "c d e",
		". Eq a => T":                  "a",
		"a . Eq a => T":                "",
		". Eq a => b":                  "b a", // the type is ahead of the context
		". (Eq a, Eq b) => b":          "b a",
		". (Ord a, Eq c, Eq b) => T":   "a c b", // the context as it comes, not as SortPreds has it
		". (Ord a, Eq a) => a":         "a",
		". (Eq (T c b), Ord a) => a":   "a c b",
		"c . (Eq (T c b), Ord a) => a": "a b",
		"x y . (Eq a, Eq b) => b":      "b a", // Vars that stand nowhere
		"a a . a -> b":                 "b",   // Vars twice
		"a b a . (Eq a, Ord c) => b":   "c",
		"a' . a -> a' -> a1":           "a a1",
	} {
		areNames(t, scheme.Free(read(text)), strings.Fields(want)...)
		if t.Failed() {
			t.Fatal(text)
		}
	}
}

func TestClose(t *testing.T) {
	for _, x := range [][3]string{
		{". T", "", ". T"},
		{". a", "", "a . a"},
		{". a", "a", ". a"},
		{". a", "b", "a . a"},
		{". b -> a", "", "b a . b -> a"},
		{". b -> a -> b", "", "b a . b -> a -> b"},
		{". b -> a -> b", "b", "a . b -> a -> b"},
		{". b -> a -> b", "a", "b . b -> a -> b"},
		{". b -> a -> b", "a b", ". b -> a -> b"},
		{". (c -> T b) -> a", "", "c b a . (c -> T b) -> a"},
		{". (c -> T b) -> a", "b", "c a . (c -> T b) -> a"},
		{". Eq a => T", "", "a . Eq a => T"},
		{". Eq a => T", "a", ". Eq a => T"},
		{". Eq a => b", "", "b a . Eq a => b"},
		{". (Eq a, Eq b) => b", "", "b a . (Eq a, Eq b) => b"},
		{". (Eq a, Eq b) => b", "b", "a . (Eq a, Eq b) => b"},
		{". (Eq a, Eq b) => b", "a", "b . (Eq a, Eq b) => b"},
		// the context is as it was: neither in another order, nor each once
		{". (Ord a, Eq c, Eq b) => T", "", "a c b . (Ord a, Eq c, Eq b) => T"},
		{". (Ord a, Eq a, Ord a) => a", "", "a . (Ord a, Eq a, Ord a) => a"},
		{". (Eq (T c b), Ord a) => a -> d", "", "a d c b . (Eq (T c b), Ord a) => a -> d"},
		{". (Eq (T c b), Ord a) => a -> d", "d c", "a b . (Eq (T c b), Ord a) => a -> d"},
		// names twice in not, such as stand nowhere, in any order
		{". a -> b -> c", "b b", "a c . a -> b -> c"},
		{". a -> b -> c", "x y", "a b c . a -> b -> c"},
		{". a -> b -> c", "x c x a", "b . a -> b -> c"},
		{". a -> a' -> a1", "a", "a' a1 . a -> a' -> a1"},
	} {
		s := read(x[0])
		is(t, scheme.Close(s.Context, s.Type, strings.Fields(x[1])...), x[2])
		if t.Failed() {
			t.Fatal(x)
		}
	}
}

// What Close leaves out is what Free has; what it closes over has nothing free.
func TestCloseAndFree(t *testing.T) {
	for _, text := range []string{". a -> b", ". (Eq c, Ord (T a)) => b -> a", ". T", ". Eq x => y -> x"} {
		s := read(text)
		areNames(t, scheme.Free(scheme.Close(s.Context, s.Type)))
		all := scheme.Close(s.Context, s.Type).Vars
		areNames(t, scheme.Free(s), all...)
		for _, name := range all {
			areNames(t, scheme.Free(scheme.Close(s.Context, s.Type, name, "q")), name)
		}
		areNames(t, scheme.Close(s.Context, s.Type, all...).Vars)
	}
}
