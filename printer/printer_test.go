package printer_test

import (
	"math"
	"strings"
	"testing"

	"paideia/api"
	"paideia/lexer"
	"paideia/printer"
)

var operators = strings.Fields("== /= < <= > >= + - *")

func tvar(name string) api.Type { return api.Type{Kind: api.TVar, Name: name} }

func tcon(name string, args ...api.Type) api.Type {
	return api.Type{Kind: api.TCon, Name: name, Args: args}
}

func tfun(from, to api.Type) api.Type {
	return api.Type{Kind: api.TFun, Args: []api.Type{from, to}}
}

func tall(name string, of api.Type) api.Type {
	return api.Type{Kind: api.TAll, Name: name, Args: []api.Type{of}}
}

func pred(class string, t api.Type) api.Pred { return api.Pred{Class: class, Type: t} }

func evar(name string) api.Expr { return api.Expr{Kind: api.EVar, Name: name} }

func econ(name string) api.Expr { return api.Expr{Kind: api.ECon, Name: name} }

func number(n int64) api.Expr { return api.Expr{Kind: api.EInt, N: n} }

func char(n int64) api.Expr { return api.Expr{Kind: api.EChar, N: n} }

func app(f, x api.Expr) api.Expr { return api.Expr{Kind: api.EApp, L: []api.Expr{f, x}} }

func lam(name string, body api.Expr) api.Expr {
	return api.Expr{Kind: api.ELam, Name: name, L: []api.Expr{body}}
}

func let(body api.Expr, l ...api.Bind) api.Expr {
	return api.Expr{Kind: api.ELet, Binds: l, L: []api.Expr{body}}
}

func of(e api.Expr, l ...api.Alt) api.Expr {
	return api.Expr{Kind: api.ECase, L: []api.Expr{e}, Alts: l}
}

func alt(con string, body api.Expr, vars ...string) api.Alt {
	return api.Alt{Con: con, Vars: vars, Body: body}
}

func bind(name string, body api.Expr) api.Bind { return api.Bind{Name: name, Body: body} }

func signed(name string, s api.Scheme, body api.Expr) api.Bind {
	return api.Bind{Name: name, Signed: true, Sig: s, Body: body}
}

// is holds a text against the one that is asked for.
func is(t *testing.T, got, want string) {
	t.Helper()
	if got != want {
		t.Errorf("%q; want %q", got, want)
	}
}

// standing is a type with its text alone, as an argument, to the left of an arrow.
type standing struct {
	t                     api.Type
	alone, argument, left string
}

func standings() []standing {
	return []standing{
		{tvar("a"), "a", "a", "a"},
		{tvar("x'"), "x'", "x'", "x'"},
		{tvar("?3"), "?3", "?3", "?3"},
		{tcon("T"), "T", "T", "T"},
		{tcon("List", tvar("a")), "List a", "(List a)", "List a"},
		{tcon("P", tvar("a"), tcon("Int")), "P a Int", "(P a Int)", "P a Int"},
		{tfun(tvar("a"), tvar("b")), "a -> b", "(a -> b)", "(a -> b)"},
		{tall("a", tvar("b")), "forall a. b", "(forall a. b)", "(forall a. b)"},
	}
}

func TestTypesOfEachKind(t *testing.T) {
	for _, x := range standings() {
		is(t, printer.Type(x.t), x.alone)
		is(t, printer.Type(tcon("L", x.t)), "L "+x.argument)
		is(t, printer.Type(tfun(x.t, tvar("z"))), x.left+" -> z")
		is(t, printer.Type(tfun(tvar("z"), x.t)), "z -> "+x.alone)
		is(t, printer.Type(tall("z", x.t)), "forall z. "+x.alone)
		for _, y := range standings() {
			is(t, printer.Type(tcon("L", x.t, y.t, x.t)), "L "+x.argument+" "+y.argument+" "+x.argument)
			is(t, printer.Type(tfun(x.t, y.t)), x.left+" -> "+y.alone)
			is(t, printer.Type(tfun(tfun(x.t, y.t), x.t)), "("+x.left+" -> "+y.alone+") -> "+x.alone)
			is(t, printer.Type(tcon("L", tcon("M", x.t, y.t))), "L (M "+x.argument+" "+y.argument+")")
			is(t, printer.Type(tcon("L", tfun(x.t, y.t))), "L ("+x.left+" -> "+y.alone+")")
			is(t, printer.Type(tfun(tcon("L", x.t), tall("z", y.t))), "L "+x.argument+" -> forall z. "+y.alone)
			is(t, printer.Type(tfun(tall("z", tfun(x.t, y.t)), x.t)), "(forall z. "+x.left+" -> "+y.alone+") -> "+x.alone)
		}
	}
}

func TestSchemes(t *testing.T) {
	for _, x := range standings() {
		is(t, printer.Scheme(api.Scheme{Type: x.t}), x.alone)
		is(t, printer.Scheme(api.Scheme{Vars: []string{"a", "b"}, Type: x.t}), x.alone)
		one := []api.Pred{pred("C", x.t)}
		is(t, printer.Scheme(api.Scheme{Context: one, Type: x.t}), "C "+x.argument+" => "+x.alone)
		for _, y := range standings() {
			two := []api.Pred{pred("C", x.t), pred("Ord", y.t)}
			is(t, printer.Scheme(api.Scheme{Context: two, Type: tvar("z")}), "(C "+x.argument+", Ord "+y.argument+") => z")
			three := []api.Pred{pred("C", x.t), pred("C", x.t), pred("D", y.t)}
			is(t, printer.Scheme(api.Scheme{Vars: []string{"q"}, Context: three, Type: y.t}),
				"(C "+x.argument+", C "+x.argument+", D "+y.argument+") => "+y.alone)
		}
	}
}

func TestSimpleExprs(t *testing.T) {
	is(t, printer.Expr(evar("x")), "x")
	is(t, printer.Expr(evar("_x'1")), "_x'1")
	is(t, printer.Expr(econ("Cons")), "Cons")
	for _, s := range operators {
		is(t, printer.Expr(evar(s)), "("+s+")")
	}
	is(t, printer.Expr(number(0)), "0")
	is(t, printer.Expr(number(7)), "7")
	is(t, printer.Expr(number(999999999999999)), "999999999999999")
	is(t, printer.Expr(number(math.MaxInt64)), "9223372036854775807")
	is(t, printer.Expr(number(math.MinInt64)), "-9223372036854775808")
}

func TestLetters(t *testing.T) {
	is(t, printer.Expr(char('a')), "'a'")
	is(t, printer.Expr(char(' ')), "' '")
	is(t, printer.Expr(char('~')), "'~'")
	is(t, printer.Expr(char('"')), "'\"'")
	is(t, printer.Expr(char('\n')), `'\n'`)
	is(t, printer.Expr(char('\'')), `'\''`)
	is(t, printer.Expr(char('\\')), `'\\'`)
	is(t, printer.Expr(char('n')), "'n'")
	for code := int64(0); code < 0x7f; code++ {
		if code != '\n' && code < 0x20 {
			continue
		}
		text := printer.Expr(char(code))
		l, err := lexer.Split([]byte(text))
		if err != nil || len(l) != 1 || l[0] != (api.Token{Kind: api.Letter, Text: text, N: code}) {
			t.Errorf("%d: %q is not that letter: %v %v", code, text, l, err)
		}
	}
}

func TestExprsWithParts(t *testing.T) {
	is(t, printer.Expr(app(evar("f"), evar("x"))), "(f x)")
	is(t, printer.Expr(app(app(evar("+"), number(1)), char('a'))), "(((+) 1) 'a')")
	is(t, printer.Expr(app(econ("C"), app(evar("f"), evar("x")))), "(C (f x))")
	is(t, printer.Expr(lam("x", evar("y"))), `(\x -> y)`)
	is(t, printer.Expr(lam("x", lam("y", app(evar("x"), evar("y"))))), `(\x -> (\y -> (x y)))`)
	is(t, printer.Expr(app(lam("x", evar("x")), let(econ("C")))), `((\x -> x) (let { } in C))`)
}

func TestLets(t *testing.T) {
	one, id := bind("a", number(1)), bind("id", lam("x", evar("x")))
	sig := api.Scheme{Vars: []string{"a"}, Context: []api.Pred{pred("Eq", tvar("a"))}, Type: tfun(tvar("a"), tvar("a"))}
	is(t, printer.Expr(let(evar("b"))), "(let { } in b)")
	is(t, printer.Expr(let(evar("b"), one)), "(let { a = 1 } in b)")
	is(t, printer.Expr(let(evar("b"), one, id)), `(let { a = 1; id = (\x -> x) } in b)`)
	is(t, printer.Expr(let(evar("b"), one, signed("f", sig, evar("a")), id)),
		`(let { a = 1; f :: Eq a => a -> a; f = a; id = (\x -> x) } in b)`)
	is(t, printer.Expr(let(let(evar("b"), one), bind("c", let(evar("d"), id)))),
		`(let { c = (let { id = (\x -> x) } in d) } in (let { a = 1 } in b))`)
}

func TestCases(t *testing.T) {
	x := evar("x")
	is(t, printer.Expr(of(x)), "(case x of { })")
	is(t, printer.Expr(of(x, alt("C", x))), "(case x of { C -> x })")
	is(t, printer.Expr(of(x, alt("C", x, "a"))), "(case x of { C a -> x })")
	is(t, printer.Expr(of(x, alt("C", x, "a", "_", "b", "_"))), "(case x of { C a _ b _ -> x })")
	is(t, printer.Expr(of(x, alt("", x, "z"))), "(case x of { z -> x })")
	is(t, printer.Expr(of(x, alt("", x))), "(case x of { _ -> x })")
	is(t, printer.Expr(of(x, alt("C", number(1), "x", "y"), alt("", econ("D"), "z"), alt("", char('a')))),
		"(case x of { C x y -> 1; z -> D; _ -> 'a' })")
	is(t, printer.Expr(of(of(x), alt("", of(x)))), "(case (case x of { }) of { _ -> (case x of { }) })")
	is(t, printer.Expr(of(app(x, x), alt("", app(x, x)))), "(case (x x) of { _ -> (x x) })")
}

func TestBinds(t *testing.T) {
	is(t, printer.Bind(bind("x", evar("y"))), "x = y")
	is(t, printer.Bind(bind("x", app(evar("f"), evar("y")))), "x = (f y)")
	is(t, printer.Bind(signed("x", api.Scheme{Type: tcon("T")}, evar("y"))), "x :: T; x = y")
	two := api.Scheme{Context: []api.Pred{pred("C", tvar("a")), pred("D", tcon("L", tvar("a")))}, Type: tfun(tvar("a"), tvar("b"))}
	is(t, printer.Bind(signed("x", two, evar("y"))), "x :: (C a, D (L a)) => a -> b; x = y")
	is(t, printer.Bind(api.Bind{Name: "x", Sig: two, Body: evar("y")}), "x = y")
}

// An operator may stand wherever a small name may: nowhere without its brackets.
func TestOperatorsInBrackets(t *testing.T) {
	y := evar("y")
	for _, s := range operators {
		in := "(" + s + ")"
		is(t, printer.Bind(bind(s, evar(s))), in+" = "+in)
		is(t, printer.Bind(signed(s, api.Scheme{Type: tvar("a")}, y)), in+" :: a; "+in+" = y")
		is(t, printer.Expr(let(y, bind(s, y))), "(let { "+in+" = y } in y)")
		is(t, printer.Expr(app(evar(s), evar(s))), "("+in+" "+in+")")
		is(t, printer.Expr(lam(s, y)), `(\`+in+` -> y)`)
		is(t, printer.Expr(of(y, alt("C", y, "a", s))), "(case y of { C a "+in+" -> y })")
		is(t, printer.Expr(of(y, alt("", y, s))), "(case y of { "+in+" -> y })")
		class := api.Class{Name: "C", Var: "a", Methods: []api.Method{{Name: s, Type: tvar("a")}}, Defaults: []api.Bind{bind(s, y)}}
		is(t, printer.Program(api.Program{Classes: []api.Class{class}}), "class C a where { "+in+" :: a; "+in+" = y };\n")
		instance := api.Instance{Class: "C", Con: "T", Binds: []api.Bind{bind(s, y)}}
		is(t, printer.Program(api.Program{Instances: []api.Instance{instance}}), "instance C T where { "+in+" = y };\n")
		is(t, printer.Program(api.Program{Binds: []api.Bind{bind(s, y)}}), in+" = y;\n")
	}
}
