package parser_test

import (
	"strings"
	"testing"

	"paideia/api"
)

const most = api.MaxDeep

// nest is n times open, then in, then n times shut.
func nest(open, in, shut string, n int) string {
	return strings.Repeat(open, n) + in + strings.Repeat(shut, n)
}

// nesting is one part that counts, with what is around it: as it is read, and the place of its first word.
type nesting struct {
	open, shut string
	first      int
}

func nestings() []nesting {
	return []nesting{
		{"(", ")", 0}, {"f (", ")", 2}, {"f x (", ") y", 4}, {"(", ") x", 0}, {"1 + (", ") * 2", 4}, {"(", " == 1)", 0},
		{"\\x -> ", "", 0}, {"\\x y (+) z -> ", "", 0},
		{"let { } in ", "", 0}, {"let { x = ", " } in 1", 0}, {"let { x = 1; y z = ", "; w = 2 } in 1", 0},
		{"case ", " of { }", 0}, {"case 1 of { C x -> ", " }", 0}, {"case 1 of { x -> 1; _ -> ", "; y -> 2 }", 0},
		{"if ", " then 1 else 1", 0}, {"if 1 then ", " else 1", 0}, {"if 1 then 1 else ", "", 0},
	}
}

func accepts(t *testing.T, f face, text string) {
	t.Helper()
	if _, err := f.read([]byte(text)); err != nil {
		t.Errorf("%s of %.80q: %v", f.name, text, err)
	}
}

func TestDeepExprs(t *testing.T) {
	for _, x := range nestings() {
		for _, in := range []string{"y", "(+)", "f x (+) 1", "( - )"} {
			accepts(t, exprs, nest(x.open, in, x.shut, most))
			accepts(t, programs, "x = "+nest(x.open, in, x.shut, most))
			exprs.checkError(t, nest(x.open, in, x.shut, most+1), most*len(x.open)+x.first, api.ErrLimit)
		}
		// Whatever stands at the greatest depth: each of what counts is one too much there.
		for _, y := range nestings() {
			exprs.checkError(t, strings.Repeat(x.open, most)+y.open, most*len(x.open)+y.first, api.ErrLimit)
		}
	}
}

func TestDeepTypes(t *testing.T) {
	for _, f := range []face{types, schemes} {
		accepts(t, f, nest("(", "a", ")", most))
		accepts(t, f, nest("T (", "a", ")", most))
		accepts(t, f, nest("(", "a", " -> b)", most))
		accepts(t, f, nest("a -> (", "b", ")", most))
		accepts(t, f, strings.Repeat("a -> ", 3*most)+"a")
		accepts(t, f, "T"+strings.Repeat(" (T a)", 3*most))
		f.checkError(t, nest("(", "a", ")", most+1), most, api.ErrLimit)
		f.checkError(t, nest("T (", "a", ")", most+1), most*3+2, api.ErrLimit)
		f.checkError(t, nest("a -> (", "b", ")", most+1), most*6+5, api.ErrLimit)
		f.checkError(t, strings.Repeat("(", most+1), most, api.ErrLimit)
		f.checkError(t, strings.Repeat("(", most)+"(+)", most, api.ErrLimit)
		f.checkError(t, strings.Repeat("(", most)+"+", most, api.ErrParse)
		f.checkError(t, strings.Repeat("(", most), most, api.ErrParse)
	}
}

// A let's signatures stand in it; a context's own brackets don't count, those of what is in it do.
func TestDeepSignatures(t *testing.T) {
	in := func(scheme string, n int) string { return nest("let { f :: "+scheme+"; f = ", "1", " } in 1", n) }
	accepts(t, exprs, in("(a)", most-1))
	exprs.checkError(t, in("(a)", most), (most-1)*len("let { f :: (a); f = ")+len("let { f :: "), api.ErrLimit)
	for _, scheme := range []string{"(Eq a) => a", "(Eq a, Ord b) => a", "Eq a => T a -> a"} {
		accepts(t, exprs, in(scheme, most))
	}
	for scheme, pos := range map[string]int{"(Eq a, Eq (T a)) => a": 10, "Eq (T a) => a": 3, "Eq (a) => a": 3, "(Eq a) => (a)": 10} {
		accepts(t, exprs, in(scheme, most-1))
		exprs.checkError(t, in(scheme, most), (most-1)*len("let { f :: "+scheme+"; f = ")+len("let { f :: ")+pos, api.ErrLimit)
	}
	accepts(t, schemes, "(Eq "+nest("(", "a", ")", most)+") => "+nest("(", "a", ")", most))
	schemes.checkError(t, "(Eq "+nest("(", "a", ")", most+1)+") => a", 4+most, api.ErrLimit)
	accepts(t, programs, "f :: "+nest("(", "a", ")", most)+"; f = "+nest("(", "1", ")", most))
	accepts(t, programs, "data T a = C "+nest("(", "a", ")", most)+" deriving (Eq)")
	programs.checkError(t, "data T a = C "+nest("(", "a", ")", most+1), 13+most, api.ErrLimit)
	accepts(t, programs, "class (D a) => C a where { m :: "+nest("(", "a", ")", most)+"; m = "+nest("(", "1", ")", most)+" }")
	accepts(t, programs, "instance (C a) => C (T a) where { m x y = "+nest("(", "1", ")", most)+" }")
	programs.checkError(t, "instance (C a) => C (T a) where { m x y = "+nest("(", "1", ")", most+1)+" }", 42+most, api.ErrLimit)
}

// One beside the other is not deep; each counts to its end alone.
func TestBesideIsNotDeep(t *testing.T) {
	many := func(text string) string { return strings.Repeat(text, 2*most) }
	for _, text := range []string{"f" + many(" (x)"), "(x)" + many(" + (x)"), "(x)" + many(" * (\\x -> x)"), "f" + many(" (let { } in 1)"), "f" + many(" (if a then b else c)"), "f" + many(" (case x of { })"),
		"let {" + many(" f x = (x); g = \\x -> x;") + "} in 1", "case x of {" + many(" x -> (case x of { });") + "}", "let { f = " + nest("(", "x", ")", most-1) + " } in " + nest("(", "x", ")", most-1), "\\" + many("x ") + "-> " + nest("(", "x", ")", most-1),
		"if " + nest("(", "x", ")", most-1) + " then " + nest("(", "x", ")", most-1) + " else " + nest("(", "x", ")", most-1), "f" + many(" (+)"), "x" + many(" + x * x")} {
		accepts(t, exprs, text)
	}
	accepts(t, programs, many("f x = (\\x -> x);"))
	accepts(t, programs, "f"+many(" x")+" = "+nest("(", "x", ")", most))
}

// What can't be there tells as such, however deep; the bracket that is too deep tells ahead of what is in it.
func TestDeepAndWrong(t *testing.T) {
	deep := strings.Repeat("(", most)
	exprs.checkError(t, deep+"(", most, api.ErrLimit)
	exprs.checkError(t, deep+"()", most, api.ErrLimit)
	exprs.checkError(t, deep+"(1 +)", most, api.ErrLimit)
	exprs.checkError(t, deep+"\\", most, api.ErrLimit)
	exprs.checkError(t, deep+"(+", most+2, api.ErrParse)
	exprs.checkError(t, deep+"(+ 1)", most+3, api.ErrParse)
	exprs.checkError(t, deep+"1 + \\x -> x", most+4, api.ErrParse)
	exprs.checkError(t, deep+"f let", most+2, api.ErrParse)
	exprs.checkError(t, deep+"f (", most+2, api.ErrLimit)
	exprs.checkError(t, deep, most, api.ErrParse)
	exprs.checkError(t, deep+")", most, api.ErrParse)
	exprs.checkError(t, strings.Repeat("(", api.MaxText), most, api.ErrLimit)
	exprs.checkError(t, ") "+strings.Repeat("(", most+1), 0, api.ErrParse)
	accepts(t, exprs, strings.Repeat("\\x -> ", most)+"\n(+)")
	exprs.checkError(t, strings.Repeat("\\x -> ", most)+"\\x", 6*most, api.ErrLimit)
	exprs.checkError(t, strings.Repeat("if 1 then 1 else ", most)+"if", 17*most, api.ErrLimit)
}
