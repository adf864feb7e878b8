package parser_test

import (
	"strings"
	"testing"

	"paideia/api"
)

func TestTypes(t *testing.T) {
	types.checkTree(t, " a", tvar("a"))
	types.checkTree(t, "T", tcon("T"))
	types.checkTree(t, "(((_a')))", tvar("_a'"))
	types.checkTree(t, "(T)", tcon("T"))
	types.checkTree(t, "T a U", tcon("T", tvar("a"), tcon("U")))
	types.checkTree(t, "T (U a) (b -> c) (V) V", tcon("T", tcon("U", tvar("a")), tfun(tvar("b"), tvar("c")), tcon("V"), tcon("V")))
	types.checkTree(t, "(T a)", tcon("T", tvar("a")))
	types.checkTree(t, "a -> b", tfun(tvar("a"), tvar("b")))
	types.checkTree(t, "a -> b -> c", tfun(tvar("a"), tfun(tvar("b"), tvar("c"))))
	types.checkTree(t, "(a -> b) -> c", tfun(tfun(tvar("a"), tvar("b")), tvar("c")))
	types.checkTree(t, "T a -> U b -> V", tfun(tcon("T", tvar("a")), tfun(tcon("U", tvar("b")), tcon("V"))))
	for _, text := range []string{"a", "T", "T a b c", "T (U a) V", "a -> b -> c", "(a -> b) -> c -> d", "T (a -> b) -> U", "T (T (T a))", "((a -> b) -> c) -> d", "T (T -> T)"} {
		types.checkText(t, text, text)
		types.checkText(t, "("+text+")", text)
		schemes.checkText(t, text, text)
	}
}

func TestWrongTypes(t *testing.T) {
	for _, x := range []struct {
		text string
		pos  int
	}{
		{"a b", 2}, {"a T", 2}, {"a (b)", 2}, {"(T) a", 4}, {"(T a) b", 6}, {"(a) (b)", 4}, {"T a )", 4}, {"a,", 1}, {"a =", 2}, {"1", 0}, {"'a'", 0}, {"_", 0}, {"T _", 2}, {"T 1", 2}, {"+", 0}, {"a + b", 2}, {"data", 0}, {"T where", 2},
		{"->", 0}, {"-> a", 0}, {"a ->", 4}, {"a -> -> b", 5}, {"a -> )", 5}, {"a -> b c", 7}, {"T -> ", 5}, {"a => b", 2}, {"a :: b", 2},
		{"(", 1}, {"()", 1}, {"(a", 2}, {"(a b)", 3}, {"(a, b)", 2}, {"(a ->)", 5}, {"T (", 3}, {"T ()", 3}, {"T (a", 4}, {"(a))", 3}, {"((a)", 4}, {"(a;)", 2},
		{"(+)", 1}, {"T (+)", 3}, {"(==) -> a", 1}, {"(1)", 1},
		{"forall a -> a", 7}, {"Eq a => a", 5}, {"(Eq a) => a", 7}, {"(Eq a, Ord a) => a", 5},
	} {
		types.checkError(t, x.text, x.pos, api.ErrParse)
		types.checkModel(t, x.text)
		if !strings.Contains(x.text, "=>") {
			schemes.checkError(t, x.text, x.pos, api.ErrParse)
		}
	}
}

func TestSchemes(t *testing.T) {
	eqa := pred("Eq", tvar("a"))
	schemes.checkTree(t, "T", api.Scheme{Type: tcon("T")})
	schemes.checkTree(t, "Eq a => a", api.Scheme{Vars: []string{"a"}, Context: []api.Pred{eqa}, Type: tvar("a")})
	schemes.checkTree(t, "(Eq a) => T", api.Scheme{Vars: []string{"a"}, Context: []api.Pred{eqa}, Type: tcon("T")})
	schemes.checkTree(t, "(Eq a, Eq a, Ord (T b)) => c", api.Scheme{Vars: []string{"c", "a", "b"}, Context: []api.Pred{eqa, eqa, pred("Ord", tcon("T", tvar("b")))}, Type: tvar("c")})
	schemes.checkTree(t, "Eq (a -> b) => b -> a", api.Scheme{Vars: []string{"b", "a"}, Context: []api.Pred{pred("Eq", tfun(tvar("a"), tvar("b")))}, Type: tfun(tvar("b"), tvar("a"))})
	schemes.checkTree(t, "Eq T => T", api.Scheme{Context: []api.Pred{pred("Eq", tcon("T"))}, Type: tcon("T")})
	schemes.checkTree(t, "Eq (((a))) => T", api.Scheme{Vars: []string{"a"}, Context: []api.Pred{eqa}, Type: tcon("T")})
	for _, text := range []string{"a", "Eq a => a", "(Eq a, Ord b) => a -> b", "Eq (T a) => T a", "Eq (a -> b) => b", "(Eq T, Ord (T U)) => T"} {
		schemes.checkText(t, text, text)
	}
}

// A Scheme's Vars: its type's, then its context's, each once, as they come.
func TestSchemeVars(t *testing.T) {
	for _, x := range [][2]string{
		{"T", ""}, {"a", "a"}, {"b -> a", "b a"}, {"T c (U b c) -> a -> b", "c b a"}, {"(c -> b) -> a -> c", "c b a"},
		{"Eq a => b", "b a"}, {"Eq b => b -> a", "b a"}, {"(Eq d, Eq c, Eq a, Eq d) => b -> a", "b a d c"}, {"Eq (T d (c -> b) a) => c", "c d b a"}, {"Eq T => T", ""},
	} {
		tree, err := schemes.read([]byte(x[0]))
		if got := strings.Join(tree.(api.Scheme).Vars, " "); err != nil || got != x[1] {
			t.Errorf("%q: %q, %v; want %q", x[0], got, err, x[1])
		}
	}
}

// Where a context begins, and where what looks like one doesn't.
func TestWrongSchemes(t *testing.T) {
	for _, x := range []struct {
		text string
		pos  int
	}{
		{"Eq a =>", 7}, {"Eq a => )", 8}, {"Eq a => Ord a => a", 14}, {"Eq => a", 3}, {"Eq => => a", 3}, {"=> a", 0}, {"a => a", 2}, {"Eq a b => a", 7}, {"Eq a -> b => a", 10}, {"T (a) b => a", 8},
		{"Eq 1 => a", 3}, {"Eq _ => a", 3}, {"Eq , => a", 3}, {"Eq () => a", 4}, {"Eq (a b) => a", 6}, {"Eq (a => b) => c", 6}, {"Eq (a", 5}, {"Eq (=> a", 4}, {"Eq ) => a", 3}, {"Eq (+) => a", 4}, {"Eq ((a) => b", 8},
		{"() => a", 1}, {"(a) => a", 1}, {"(Eq) => a", 3}, {"(Eq a,) => a", 6}, {"(Eq a Ord b) => a", 6}, {"(Eq a; Ord b) => a", 5}, {"((Eq a)) => a", 1}, {"(Eq a, (Ord b)) => a", 7}, {"(, Eq a) => a", 1}, {"(Eq a -> b) => a", 6}, {"(Eq (T a) b) => a", 10}, {"(Eq a b) => a", 6}, {"(T a, Eq b) -> c", 4}, {"(+) => a", 1},
		{"(Eq a, Ord b)", 5}, {"(Eq a, Ord b) a => b", 5}, {"(Eq a) a => b", 7}, {"(Eq a", 5}, {"(Eq a => b)", 6}, {"(Eq a -> b", 10}, {"(a -> b) => c", 1}, {"Eq a, Ord b => c", 4}, {"(Eq a) => ", 10}, {"(Eq a) => (Ord b) => c", 18},
	} {
		schemes.checkError(t, x.text, x.pos, api.ErrParse)
		schemes.checkModel(t, x.text)
		head := "x :: "
		if x.pos < len(x.text) {
			programs.checkError(t, head+x.text+"; x = 1", len(head)+x.pos, api.ErrParse)
			exprs.checkError(t, "let { "+head+x.text+"; x = 1 } in x", len("let { "+head)+x.pos, api.ErrParse)
		} else {
			programs.checkError(t, head+x.text, len(head)+x.pos, api.ErrParse)
		}
	}
}
