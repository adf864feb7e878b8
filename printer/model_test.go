package printer_test

import (
	"fmt"
	"math/rand"
	"strings"
	"testing"

	"paideia/api"
	"paideia/lexer"
	"paideia/printer"
)

// The model: each text put together from those of its parts, brackets told by the text's look alone.

// modelArgument sets brackets around a text with a blank outside of brackets.
func modelArgument(text string) string {
	if strings.Contains(text, " ") {
		return "(" + text + ")"
	}
	return text
}

func modelType(t api.Type) string {
	switch t.Kind {
	case api.TFun:
		left := modelType(t.Args[0])
		if t.Args[0].Kind >= api.TFun {
			left = "(" + left + ")"
		}
		return fmt.Sprintf("%s -> %s", left, modelType(t.Args[1]))
	case api.TAll:
		return fmt.Sprintf("forall %s. %s", t.Name, modelType(t.Args[0]))
	}
	words := []string{t.Name}
	for _, x := range t.Args {
		words = append(words, modelArgument(modelType(x)))
	}
	return strings.Join(words, " ")
}

func modelContext(l []api.Pred) string {
	var texts []string
	for _, p := range l {
		texts = append(texts, p.Class+" "+modelArgument(modelType(p.Type)))
	}
	text := strings.Join(texts, ", ")
	if len(l) > 1 {
		text = "(" + text + ")"
	}
	if len(l) > 0 {
		text += " => "
	}
	return text
}

func modelBlock(texts ...string) string {
	if len(texts) == 0 {
		return "{ }"
	}
	return "{ " + strings.Join(texts, "; ") + " }"
}

func modelName(s string) string {
	if strings.Contains("== /= < <= > >= + - *", s) {
		return "(" + s + ")"
	}
	return s
}

func modelBinds(l []api.Bind) (texts []string) {
	for _, b := range l {
		if b.Signed {
			texts = append(texts, fmt.Sprintf("%s :: %s%s", modelName(b.Name), modelContext(b.Sig.Context), modelType(b.Sig.Type)))
		}
		texts = append(texts, fmt.Sprintf("%s = %s", modelName(b.Name), modelExpr(b.Body)))
	}
	return texts
}

func modelExpr(e api.Expr) string {
	switch e.Kind {
	case api.EInt:
		return fmt.Sprint(e.N)
	case api.EChar:
		return strings.ReplaceAll(fmt.Sprintf("%q", rune(e.N)), `\"`, `"`)
	case api.EApp:
		return fmt.Sprintf("(%s %s)", modelExpr(e.L[0]), modelExpr(e.L[1]))
	case api.ELam:
		return fmt.Sprintf(`(\%s -> %s)`, modelName(e.Name), modelExpr(e.L[0]))
	case api.ELet:
		return fmt.Sprintf("(let %s in %s)", modelBlock(modelBinds(e.Binds)...), modelExpr(e.L[0]))
	case api.ECase:
		var texts []string
		for _, a := range e.Alts {
			words := []string{a.Con}
			for _, x := range a.Vars {
				words = append(words, modelName(x))
			}
			if a.Con == "" && len(a.Vars) == 0 {
				words = append(words, "_")
			}
			texts = append(texts, strings.TrimSpace(strings.Join(words, " "))+" -> "+modelExpr(a.Body))
		}
		return fmt.Sprintf("(case %s of %s)", modelExpr(e.L[0]), modelBlock(texts...))
	}
	return modelName(e.Name)
}

func modelProgram(p api.Program) string {
	var text strings.Builder
	for _, d := range p.Datas {
		var cons []string
		for _, c := range d.Cons {
			cons = append(cons, modelType(tcon(c.Name, c.Args...)))
		}
		fmt.Fprint(&text, "data ", strings.Join(append([]string{d.Name}, d.Vars...), " "), " = ", strings.Join(cons, " | "))
		if len(d.Deriving) > 0 {
			fmt.Fprint(&text, " deriving (", strings.Join(d.Deriving, ", "), ")")
		}
		fmt.Fprint(&text, ";\n")
	}
	for _, c := range p.Classes {
		var supers []api.Pred
		for _, s := range c.Supers {
			supers = append(supers, pred(s, tvar(c.Var)))
		}
		var texts []string
		for _, m := range c.Methods {
			texts = append(texts, modelName(m.Name)+" :: "+modelType(m.Type))
		}
		fmt.Fprintf(&text, "class %s%s %s where %s;\n", modelContext(supers), c.Name, c.Var, modelBlock(append(texts, modelBinds(c.Defaults)...)...))
	}
	for _, i := range p.Instances {
		of := modelArgument(strings.Join(append([]string{i.Con}, i.Vars...), " "))
		fmt.Fprintf(&text, "instance %s%s %s where %s;\n", modelContext(i.Context), i.Class, of, modelBlock(modelBinds(i.Binds)...))
	}
	for _, b := range p.Binds {
		fmt.Fprint(&text, strings.Join(modelBinds([]api.Bind{b}), "; "), ";\n")
	}
	return text.String()
}

// dice makes trees such as a parser makes; of one seed, so that each run makes the same ones.
type dice struct{ *rand.Rand }

func some[T any](d dice, most int, one func() T) (l []T) {
	for range d.Intn(most + 1) {
		l = append(l, one())
	}
	return l
}

func (d dice) of(words ...string) string { return words[d.Intn(len(words))] }

func (d dice) small() string { return d.of("a", "b", "x'", "_y", "f") }

func (d dice) great() string { return d.of("A", "Bb", "C'", "List") }

// name is a small name, or an operator.
func (d dice) name() string { return d.of(d.small(), d.small(), d.of(operators...)) }

func (d dice) typ(deep int, alls bool) api.Type {
	kinds := 4
	if alls {
		kinds = 5
	}
	switch n := d.Intn(kinds); {
	case deep == 0 || n == 0:
		return tvar(d.small())
	case n == 1:
		return tcon(d.great(), some(d, 3, func() api.Type { return d.typ(deep-1, alls) })...)
	case n == 4:
		return tall(d.small(), d.typ(deep-1, alls))
	}
	return tfun(d.typ(deep-1, alls), d.typ(deep-1, alls))
}

func (d dice) pred() api.Pred { return pred(d.great(), d.typ(2, false)) }

func (d dice) scheme() api.Scheme {
	return api.Scheme{Context: some(d, 3, d.pred), Type: d.typ(3, false)}
}

func (d dice) expr(deep int) api.Expr {
	less := func() api.Expr { return d.expr(deep - 1) }
	n := d.Intn(9)
	if deep == 0 {
		n %= 4
	}
	switch n {
	case 0:
		return econ(d.great())
	case 1:
		return number(d.Int63n(1e15))
	case 2:
		return char([]int64{'\n', '\'', '\\', '"', ' ', '~', 'a', '0'}[d.Intn(8)])
	case 3:
		return evar(d.name())
	case 4:
		return lam(d.name(), less())
	case 5:
		return let(less(), some(d, 3, func() api.Bind { return d.bind(deep - 1) })...)
	case 6:
		return of(less(), some(d, 3, func() api.Alt { return d.alt(deep - 1) })...)
	}
	return app(less(), less())
}

func (d dice) alt(deep int) api.Alt {
	switch d.Intn(3) {
	case 0:
		return alt("", d.expr(deep))
	case 1:
		return alt("", d.expr(deep), d.name())
	}
	return alt(d.great(), d.expr(deep), some(d, 3, func() string { return d.of("_", d.name()) })...)
}

func (d dice) bind(deep int) api.Bind {
	if d.Intn(2) == 0 {
		return bind(d.name(), d.expr(deep))
	}
	return signed(d.name(), d.scheme(), d.expr(deep))
}

func (d dice) program() api.Program {
	binds := func() api.Bind { return d.bind(2) }
	unsigned := func() api.Bind { return bind(d.name(), d.expr(2)) }
	return api.Program{
		Datas: some(d, 2, func() api.Data {
			con := func() api.Con {
				return con(d.great(), some(d, 3, func() api.Type { return d.typ(2, false) })...)
			}
			return api.Data{Name: d.great(), Vars: some(d, 3, d.small), Cons: append(some(d, 2, con), con()), Deriving: some(d, 3, d.great)}
		}),
		Classes: some(d, 2, func() api.Class {
			method := func() api.Method { return api.Method{Name: d.name(), Type: d.typ(2, false)} }
			return api.Class{Name: d.great(), Var: d.small(), Supers: some(d, 3, d.great), Methods: some(d, 2, method), Defaults: some(d, 2, unsigned)}
		}),
		Instances: some(d, 2, func() api.Instance {
			return api.Instance{Class: d.great(), Con: d.great(), Vars: some(d, 2, d.small), Context: some(d, 3, d.pred), Binds: some(d, 2, binds)}
		}),
		Binds: some(d, 2, binds),
	}
}

func TestTextsAreTheModels(t *testing.T) {
	d := dice{rand.New(rand.NewSource(1))}
	for range 4000 {
		of, e, p := d.typ(4, true), d.expr(4), d.program()
		is(t, printer.Type(of), modelType(of))
		is(t, printer.Expr(e), modelExpr(e))
		is(t, printer.Program(p), modelProgram(p))
		for _, b := range p.Binds {
			is(t, printer.Bind(b), strings.Join(modelBinds([]api.Bind{b}), "; "))
			is(t, printer.Scheme(b.Sig), modelContext(b.Sig.Context)+modelType(b.Sig.Type))
		}
		if t.Failed() {
			return
		}
	}
}

// Trees such as a parser makes, and their texts, are one to one: the same text is of the same tree, and it has words alone.
func TestTextsTellTrees(t *testing.T) {
	d := dice{rand.New(rand.NewSource(2))}
	types, exprs, programs := map[string]api.Type{}, map[string]api.Expr{}, map[string]api.Program{}
	for range 20000 {
		of, e := d.typ(3, true), d.expr(2)
		if old, ok := types[printer.Type(of)]; ok && !sameType(of, old) {
			t.Fatalf("%q is of %v, and of %v", printer.Type(of), of, old)
		}
		if old, ok := exprs[printer.Expr(e)]; ok && !printer.Same(e, old) {
			t.Fatalf("%q is of %v, and of %v", printer.Expr(e), e, old)
		}
		types[printer.Type(of)], exprs[printer.Expr(e)] = of, e
		if _, err := lexer.Split([]byte(printer.Expr(e))); err != nil {
			t.Fatalf("%q: %v", printer.Expr(e), err)
		}
	}
	for range 2000 {
		p := d.program()
		text := printer.Program(p)
		if old, ok := programs[text]; ok != printer.SameProgram(p, old) && text != "" {
			t.Fatalf("%q is of %v, and of %v", text, p, old)
		}
		programs[text] = p
		if _, err := lexer.Split([]byte(text)); err != nil && len(text) <= api.MaxText {
			t.Fatalf("%q: %v", text, err)
		}
	}
	if len(types) < 1000 || len(exprs) < 1000 || len(programs) < 1000 {
		t.Error("too few trees: ", len(types), len(exprs), len(programs))
	}
}

// sameType asks SameProgram: a type stands alone in a constructor's arguments.
func sameType(a, b api.Type) bool {
	in := func(t api.Type) api.Program {
		return api.Program{Datas: []api.Data{{Cons: []api.Con{con("C", t)}}}}
	}
	return printer.SameProgram(in(a), in(b))
}
