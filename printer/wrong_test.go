package printer_test

import (
	"math"
	"reflect"
	"strings"
	"testing"

	"paideia/api"
	"paideia/printer"
)

func TestNilTrees(t *testing.T) {
	is(t, printer.Type(api.Type{}), "")
	is(t, printer.Scheme(api.Scheme{}), "")
	is(t, printer.Expr(api.Expr{}), "")
	is(t, printer.Program(api.Program{}), "")
	printer.Bind(api.Bind{})
	if !printer.Same(api.Expr{}, api.Expr{}) || !printer.SameProgram(api.Program{}, api.Program{}) {
		t.Error("nothing is nothing")
	}
	if printer.Same(api.Expr{}, evar("")) || printer.SameProgram(api.Program{}, api.Program{Binds: []api.Bind{{}}}) {
		t.Error("nothing is something")
	}
}

// lacking are expressions of each kind, and of kinds that are none, with as many parts as none, one, two, three.
func lacking() (l []api.Expr) {
	for _, kind := range []int{math.MinInt, -1, 0, 1, 2, 3, 4, 5, 6, 7, 8, 9, math.MaxInt} {
		for parts := range 4 {
			l = append(l,
				api.Expr{Kind: kind, L: make([]api.Expr, parts)},
				api.Expr{Kind: kind, N: math.MinInt64, L: make([]api.Expr, parts), Alts: make([]api.Alt, parts), Binds: make([]api.Bind, parts)})
		}
	}
	return l
}

func lackingTypes() (l []api.Type) {
	for _, kind := range []int{math.MinInt, -1, 0, 1, 2, 3, 4, 5, math.MaxInt} {
		for parts := range 4 {
			l = append(l, api.Type{Kind: kind, Args: make([]api.Type, parts)}, api.Type{Kind: kind, Name: "a", Args: make([]api.Type, parts)})
		}
	}
	return l
}

// No call panics, whatever is lacking; what is there is told.
func TestPartsThatAreLacking(t *testing.T) {
	for _, x := range lackingTypes() {
		printer.Type(x)
		for _, y := range lackingTypes() {
			printer.Type(tcon("T", x, tfun(x, y), tall("a", y)))
		}
		is(t, printer.Type(tcon("T", tvar("a"), api.Type{}, tvar("b"))), "T a  b")
		s := api.Scheme{Context: []api.Pred{{Type: x}}, Type: x}
		printer.Scheme(s)
		printer.Bind(api.Bind{Signed: true, Sig: s})
		printer.Program(api.Program{Datas: []api.Data{{Cons: []api.Con{{Args: []api.Type{x}}}}}, Classes: []api.Class{{Methods: []api.Method{{Type: x}}}}, Instances: []api.Instance{{Context: []api.Pred{{Type: x}}}}})
	}
	for i, x := range lacking() {
		printer.Expr(x)
		is(t, printer.Expr(app(evar("f"), let(evar("y"), bind("x", x)))), "(f (let { x = "+printer.Expr(x)+" } in y))")
		for j, y := range lacking() {
			// An empty list is nil: so the two without parts are one.
			if same := printer.Same(x, y); same != reflect.DeepEqual(normal(x), normal(y)) {
				t.Error(i, j, same)
			}
		}
	}
	for n := range 3 {
		printer.Program(api.Program{Datas: make([]api.Data, n), Classes: make([]api.Class, n), Instances: make([]api.Instance, n), Binds: make([]api.Bind, n)})
	}
	printer.Program(api.Program{Datas: []api.Data{{Vars: []string{""}, Deriving: []string{""}}}, Classes: []api.Class{{Supers: []string{""}}}, Instances: []api.Instance{{Vars: []string{""}}}})
}

// normal has nil for each empty list.
func normal(e api.Expr) api.Expr {
	if len(e.L) == 0 {
		e.L = nil
	}
	if len(e.Alts) == 0 {
		e.Alts = nil
	}
	if len(e.Binds) == 0 {
		e.Binds = nil
	}
	return e
}

func TestLettersThatAreNone(t *testing.T) {
	for _, code := range []int64{math.MinInt64, -1, 0, 9, 13, 0x1f, 0x7f, 0x80, 0xff, 0x100, 0xd800, 1 << 32, 1<<32 + 'a', math.MaxInt64} {
		is(t, printer.Expr(char(code)), "'?'")
	}
}

func TestNamesOfAnyBytes(t *testing.T) {
	for _, s := range []string{"", "é", "\x00\xff", "a b", "=", "->", "(+)", "+ ", "===", "data"} {
		is(t, printer.Type(tvar(s)), s)
		is(t, printer.Type(tcon(s)), s)
		is(t, printer.Expr(evar(s)), s)
		is(t, printer.Expr(econ(s)), s)
		is(t, printer.Bind(bind(s, evar(s))), s+" = "+s)
	}
}

// The deepest trees that the document speaks of: each ends, and soon.
func TestDeepTrees(t *testing.T) {
	const deep = 1<<16 - 2
	grow := func(e api.Expr, f func(api.Expr) api.Expr) api.Expr {
		for range deep {
			e = f(e)
		}
		return e
	}
	x := evar("x")
	for text, e := range map[string]api.Expr{
		"(x ":                 grow(x, func(e api.Expr) api.Expr { return app(x, e) }),
		"(":                   grow(x, func(e api.Expr) api.Expr { return app(e, x) }),
		`(\x -> `:             grow(x, func(e api.Expr) api.Expr { return lam("x", e) }),
		"(let { } in ":        grow(x, func(e api.Expr) api.Expr { return let(e) }),
		"(let { x = ":         grow(x, func(e api.Expr) api.Expr { return let(x, bind("x", e)) }),
		"(case ":              grow(x, func(e api.Expr) api.Expr { return of(e) }),
		"(case x of { _ -> ":  grow(x, func(e api.Expr) api.Expr { return of(x, alt("", e)) }),
		"(case x of { C -> x": grow(x, func(e api.Expr) api.Expr { return of(x, alt("C", x), alt("D", e)) }),
	} {
		got := printer.Expr(e)
		if !strings.HasPrefix(got, text) || strings.Count(got, "(") != deep || strings.Count(got, ")") != deep {
			t.Errorf("%.20q: %.40q, %d", text, got, len(got))
		}
		if !printer.Same(e, e) || printer.Same(e, e.L[0]) {
			t.Errorf("%.20q: Same", text)
		}
	}
	right, left, in := tvar("a"), tvar("a"), tvar("a")
	for range deep {
		right, left, in = tfun(tvar("a"), right), tfun(left, tvar("a")), tcon("L", in)
	}
	is(t, printer.Type(right), strings.Repeat("a -> ", deep)+"a")
	is(t, printer.Type(left), strings.Repeat("(", deep-1)+"a -> a"+strings.Repeat(") -> a", deep-1))
	is(t, printer.Type(in), strings.Repeat("L (", deep-1)+"L a"+strings.Repeat(")", deep-1))
}

// What is handed in is neither changed nor read behind its length.
func TestMemory(t *testing.T) {
	p, want := fullProgram(), fullProgram()
	for range 2 {
		printer.Program(p)
		printer.SameProgram(p, want)
		printer.Expr(fullExpr())
		if !reflect.DeepEqual(p, want) {
			t.Fatal("a program was changed")
		}
	}
	room := []api.Type{tvar("a"), tvar("b"), tvar("c")}
	vars := []string{"a", "b", "c"}
	cons := tcon("T")
	cons.Args = room[:1]
	is(t, printer.Type(cons), "T a")
	text := printer.Program(api.Program{
		Datas:     []api.Data{{Name: "T", Vars: vars[:1], Cons: []api.Con{{Name: "C", Args: room[:1]}}, Deriving: vars[:1]}},
		Classes:   []api.Class{{Name: "C", Var: "v", Supers: vars[:1]}},
		Instances: []api.Instance{{Class: "C", Con: "T", Vars: vars[:1]}},
	})
	is(t, text, "data T a = C a deriving (a);\nclass a v => C v where { };\ninstance C (T a) where { };\n")
	if !reflect.DeepEqual(room, []api.Type{tvar("a"), tvar("b"), tvar("c")}) || !reflect.DeepEqual(vars, []string{"a", "b", "c"}) {
		t.Error("what lies behind a list's length was written", room, vars)
	}
	room[0], vars[0] = tvar("z"), "z"
	if !strings.HasPrefix(text, "data T a = C a deriving (a);") {
		t.Error("a text hangs on what was handed in")
	}
}
