package parser_test

import (
	"reflect"
	"strings"
	"testing"

	"paideia/api"
	"paideia/parser"
	"paideia/printer"
)

var operators = strings.Fields("== /= < <= > >= + - *")

func tvar(name string) api.Type { return api.Type{Kind: api.TVar, Name: name} }

func tcon(name string, args ...api.Type) api.Type {
	return api.Type{Kind: api.TCon, Name: name, Args: args}
}

func tfun(from, to api.Type) api.Type {
	return api.Type{Kind: api.TFun, Args: []api.Type{from, to}}
}

func pred(class string, t api.Type) api.Pred { return api.Pred{Class: class, Type: t} }

func evar(pos int, name string) api.Expr { return api.Expr{Kind: api.EVar, Pos: pos, Name: name} }

func econ(pos int, name string) api.Expr { return api.Expr{Kind: api.ECon, Pos: pos, Name: name} }

func number(pos int, n int64) api.Expr { return api.Expr{Kind: api.EInt, Pos: pos, N: n} }

func char(pos int, n int64) api.Expr { return api.Expr{Kind: api.EChar, Pos: pos, N: n} }

func app(pos int, f, x api.Expr) api.Expr {
	return api.Expr{Kind: api.EApp, Pos: pos, L: []api.Expr{f, x}}
}

func lam(pos int, name string, body api.Expr) api.Expr {
	return api.Expr{Kind: api.ELam, Pos: pos, Name: name, L: []api.Expr{body}}
}

func let(pos int, body api.Expr, l ...api.Bind) api.Expr {
	return api.Expr{Kind: api.ELet, Pos: pos, Binds: l, L: []api.Expr{body}}
}

func cases(pos int, e api.Expr, l ...api.Alt) api.Expr {
	return api.Expr{Kind: api.ECase, Pos: pos, L: []api.Expr{e}, Alts: l}
}

func alt(pos int, con string, body api.Expr, vars ...string) api.Alt {
	return api.Alt{Con: con, Vars: vars, Body: body, Pos: pos}
}

func bind(pos int, name string, body api.Expr) api.Bind {
	return api.Bind{Name: name, Body: body, Pos: pos}
}

func signed(pos int, name string, s api.Scheme, body api.Expr) api.Bind {
	return api.Bind{Name: name, Signed: true, Sig: s, Body: body, Pos: pos}
}

// The faces by name, each with its tree as any, and as text.
type face struct {
	name string
	read func(b []byte) (any, error)
	text func(tree any) string
}

func faceOf[T any](name string, read func([]byte) (T, error), text func(T) string) face {
	return face{
		name,
		func(b []byte) (any, error) { return read(b) },
		func(tree any) string { return text(tree.(T)) },
	}
}

var (
	programs = faceOf("Program", parser.Program, printer.Program)
	exprs    = faceOf("Expr", parser.Expr, printer.Expr)
	types    = faceOf("Type", parser.Type, printer.Type)
	schemes  = faceOf("Scheme", parser.Scheme, printer.Scheme)
	faces    = []face{programs, exprs, types, schemes}
)

// isAt holds the error against &api.At{pos, want} itself: a wrapped one, or another's place, is none.
func isAt(err error, pos int, want error) bool {
	a, ok := err.(*api.At)
	return ok && a.Pos == pos && a.Err == want
}

// checkTree asks for a tree, field by field, places too; an empty list must be nil here.
func (f face) checkTree(t *testing.T, text string, want any) {
	t.Helper()
	got, err := f.read([]byte(text))
	if err != nil || !reflect.DeepEqual(got, want) {
		t.Errorf("%s of %q: %+v, %v; want %+v", f.name, text, got, err, want)
	}
}

// checkText asks for a tree by its text, and that this text's tree is the same (P3.3).
func (f face) checkText(t *testing.T, text, want string) {
	t.Helper()
	tree, err := f.read([]byte(text))
	if got := f.text(tree); err != nil || got != want {
		t.Errorf("%s of %q: %q, %v; want %q", f.name, text, got, err, want)
		return
	}
	again, err := f.read([]byte(want))
	if err != nil || !same(tree, again) {
		t.Errorf("%s of %q, read again: %+v, %v; want %+v", f.name, want, again, err, tree)
	}
}

// checkError asks for the error, and for nothing beside it.
func (f face) checkError(t *testing.T, text string, pos int, want error) {
	t.Helper()
	got, err := f.read([]byte(text))
	if !isAt(err, pos, want) || !reflect.ValueOf(got).IsZero() {
		t.Errorf("%s of %.80q: %+v, %v; want %v around %d", f.name, text, got, err, want, pos)
	}
}

// same says whether two trees of one face are the same but for places.
func same(a, b any) bool {
	switch x := a.(type) {
	case api.Program:
		return printer.SameProgram(x, b.(api.Program))
	case api.Expr:
		return printer.Same(x, b.(api.Expr))
	}
	return reflect.DeepEqual(a, b)
}

func TestNothing(t *testing.T) {
	for _, text := range []string{"", " ", "\n\t", "-- a", ";", ";;", " ; ; -- a\n;"} {
		programs.checkTree(t, text, api.Program{})
	}
	for _, f := range faces[1:] {
		for _, text := range []string{"", " ", "-- a\n  "} {
			f.checkError(t, text, len(text), api.ErrParse)
		}
		f.checkError(t, " ;", 1, api.ErrParse)
	}
	if p, err := parser.Program(nil); err != nil || !reflect.DeepEqual(p, api.Program{}) {
		t.Error(p, err)
	}
	for _, f := range faces[1:] {
		if tree, err := f.read(nil); !isAt(err, 0, api.ErrParse) || !reflect.ValueOf(tree).IsZero() {
			t.Error(f.name, tree, err)
		}
	}
}

func TestLexersErrors(t *testing.T) {
	long := strings.Repeat("a", api.MaxName+1)
	for _, f := range faces {
		f.checkError(t, "#", 0, api.ErrLex)
		f.checkError(t, "x = 1 \x00", 6, api.ErrLex)
		f.checkError(t, "\xff\xfe", 0, api.ErrLex)
		f.checkError(t, "a "+long, 2, api.ErrLex)
		f.checkError(t, "a 1234567890123456", 2, api.ErrLex)
		f.checkError(t, "a 'ab'", 2, api.ErrLex)
		f.checkError(t, strings.Repeat(" ", api.MaxText+1), api.MaxText, api.ErrLimit)
		f.checkError(t, ") #"+strings.Repeat(" ", api.MaxText), api.MaxText, api.ErrLimit)
		f.checkError(t, ") ) #", 4, api.ErrLex) // what is no word tells ahead of a word that can't be there
		f.checkError(t, strings.Repeat("(", api.MaxDeep+1)+"#", api.MaxDeep+1, api.ErrLex)
	}
}

func TestLongTexts(t *testing.T) {
	spaces := func(text string) string { return text + strings.Repeat(" ", api.MaxText-len(text)) }
	exprs.checkTree(t, spaces("x"), evar(0, "x"))
	types.checkTree(t, spaces("a"), tvar("a"))
	schemes.checkTree(t, spaces("a"), api.Scheme{Vars: []string{"a"}, Type: tvar("a")})
	programs.checkTree(t, spaces("x = 1"), api.Program{Binds: []api.Bind{bind(0, "x", number(4, 1))}})
	programs.checkTree(t, strings.Repeat(";", api.MaxText), api.Program{})
	exprs.checkError(t, spaces("x +"), api.MaxText, api.ErrParse)
	e, err := parser.Expr([]byte("f" + strings.Repeat(" x", (api.MaxText-1)/2)))
	if n := strings.Count(printer.Expr(e), "("); err != nil || n != (api.MaxText-1)/2 {
		t.Error(n, err)
	}
	chain := strings.Repeat("a->", api.MaxText/3) + "a"
	of, err := parser.Type([]byte(chain))
	if got := strings.ReplaceAll(printer.Type(of), " ", ""); err != nil || got != chain {
		t.Errorf("%.40q %v", got, err)
	}
	many := func(part string) string { return strings.Repeat(part, (api.MaxText-20)/len(part)) }
	for _, text := range []string{many("x=1;"), many("class C a where{};"), "f " + many("x ") + "=1", "data T=C " + many("a "), "x::a;" + many("x=1;")} {
		accepts(t, programs, text)
	}
	for _, text := range []string{"1" + many("+1"), "1" + many("*1-1"), "\\" + many("x ") + "-> 1", "let{" + many("x=1;") + "}in 1", "case x of{" + many("_->1;") + "}"} {
		accepts(t, exprs, text)
	}
	programs.checkError(t, many("x=1;")+"z::a", len(many("x=1;")), api.ErrParse)
	programs.checkError(t, "x=1;"+many("x::a;"), 9, api.ErrParse)
}

// What is handed in is neither changed nor kept nor read behind its length.
func TestMemory(t *testing.T) {
	text := "data T a = C a | D deriving (Eq, Ord); class Eq a => K a where { m :: a; m = m }; instance Eq b => K (T b) where { m = m }; f x = case x of { C y -> y; _ -> x }; f :: (Eq a, Ord b) => a -> b #"
	b := []byte(text)
	p, err := parser.Program(b[:len(b)-2])
	if string(b) != text || err != nil {
		t.Errorf("the text was changed: %q, %v", b, err)
	}
	want := printer.Program(p)
	clear(b)
	if got := printer.Program(p); got != want || !strings.Contains(got, "f :: (Eq a, Ord b) => a -> b; f = (\\x -> (case x of") {
		t.Errorf("a tree hangs on the text's memory: %q", got)
	}
	q, _ := parser.Program([]byte(text[:len(text)-2]))
	if !reflect.DeepEqual(p, q) {
		t.Error("two answers to one text")
	}
}

// Each list is memory of its own: what is appended to one is seen in no other one.
func TestListsShareNothing(t *testing.T) {
	text := "data T a b c = C a b c | D a b c | E a deriving (Eq, Ord, Show); class (Eq a, Ord a, Num a) => K a where { m :: a -> a; n :: a; o :: a; m = m; n = n; o = o }; instance (Eq a, Eq b, Eq c) => K (T a b c) where { m = m; n = n; o = o }; f :: (Eq a, Ord b, Num c) => T a b c -> a; f x y z = let { g :: a; g = x; h = y; i = z } in case g h i of { C x y z -> x + y; D x y z -> z; w -> if w then w else w }; g x = x; g :: a; h = 1"
	p, err := parser.Program([]byte(text))
	if err != nil {
		t.Fatal(err)
	}
	want := printer.Program(p)
	n := appendToLists(reflect.ValueOf(p))
	if got := printer.Program(p); got != want || n < 100 {
		t.Errorf("%d lists: %q; want %q", n, got, want)
	}
	n = 0
	seen := map[uintptr]bool{}
	eachList(reflect.ValueOf(p), func(l reflect.Value) {
		if l.Cap() > 0 {
			if seen[l.Pointer()] {
				t.Error("one list twice: ", l)
			}
			seen[l.Pointer()] = true
			n++
		}
	})
	if n < 40 {
		t.Error("too few lists: ", n)
	}
}

func eachList(v reflect.Value, do func(reflect.Value)) {
	switch v.Kind() {
	case reflect.Struct:
		for i := range v.NumField() {
			eachList(v.Field(i), do)
		}
	case reflect.Slice:
		do(v)
		for i := range v.Len() {
			eachList(v.Index(i), do)
		}
	}
}

// appendToLists writes a zero into the spare room of each list.
func appendToLists(v reflect.Value) (n int) {
	eachList(v, func(l reflect.Value) {
		for i := l.Len(); i < l.Cap(); i++ {
			l.Slice(0, l.Cap()).Index(i).SetZero()
		}
		n++
	})
	return n
}
