package scope_test

import (
	"math/rand"
	"slices"
	"strconv"
	"strings"
	"testing"

	"paideia/api"
	"paideia/lexer"
	"paideia/printer"
	"paideia/scope"
)

// The model goes from within to around: whatever may be amiss in a part, as it comes; what binds a name takes away those of it. Lists are gone through one with another; there is no table of what is bound.

// met is a variable, a constructor, or (without a name) a name twice.
type met struct {
	kind int
	name string
	pos  int
}

const twice = -1

func without(l []met, names []string) (rest []met) {
	for _, m := range l {
		if m.kind != api.EVar || !slices.Contains(names, m.name) {
			rest = append(rest, m)
		}
	}
	return rest
}

// metInList is what is met in a list's names, and then, in the bodies.
func metInList(l []api.Bind) (names []string, first, bodies []met) {
	for _, b := range l {
		if slices.Contains(names, b.Name) {
			first = append(first, met{twice, "", b.Pos})
		}
		names = append(names, b.Name)
		bodies = append(bodies, metIn(b.Body)...)
	}
	return names, first, bodies
}

func metInAlt(a api.Alt) (l []met) {
	if a.Con != "" {
		l = append(l, met{api.ECon, a.Con, a.Pos})
	}
	for i, x := range a.Vars {
		if x != "_" && slices.Contains(a.Vars[:i], x) {
			l = append(l, met{twice, "", a.Pos})
		}
	}
	return append(l, without(metIn(a.Body), a.Vars)...)
}

func metIn(e api.Expr) []met {
	switch e.Kind {
	case api.EVar, api.ECon:
		return []met{{e.Kind, e.Name, e.Pos}}
	case api.EApp:
		return append(metIn(e.L[0]), metIn(e.L[1])...)
	case api.ELam:
		return without(metIn(e.L[0]), []string{e.Name})
	case api.ELet:
		names, first, bodies := metInList(e.Binds)
		return append(first, without(append(bodies, metIn(e.L[0])...), names)...)
	case api.ECase:
		l := metIn(e.L[0])
		for _, a := range e.Alts {
			l = append(l, metInAlt(a)...)
		}
		return l
	}
	return nil
}

func modelFree(e api.Expr) (names []string) {
	for _, m := range metIn(e) {
		if m.kind == api.EVar && !slices.Contains(names, m.name) {
			names = append(names, m.name)
		}
	}
	return names
}

// defined are names that a program defines, each with the place that tells it is there twice; ahead of them stand those that are there besides.
type defined struct {
	names []string
	pos   int
}

// modelTwice is the place of the first list with a name that is there ahead; -1: there is none.
func modelTwice(besides []string, l []defined) int {
	all := slices.Clone(besides)
	for _, d := range l {
		for _, name := range d.names {
			if slices.Contains(all, name) {
				return d.pos
			}
			all = append(all, name)
		}
	}
	return -1
}

// modelNames has a mark ahead of each name of another kind: so all of them are held against each other at once.
func modelNames(p api.Program) (datas, classes, binds []defined) {
	for i, d := range p.Datas {
		names := []string{"type " + d.Name}
		for _, v := range d.Vars {
			names = append(names, strconv.Itoa(i)+" "+v)
		}
		for _, c := range d.Cons {
			names = append(names, c.Name)
		}
		datas = append(datas, defined{names, d.Pos})
	}
	for _, c := range p.Classes {
		names := []string{"class " + c.Name}
		for _, m := range c.Methods {
			names = append(names, m.Name)
		}
		classes = append(classes, defined{names, c.Pos})
	}
	for _, b := range p.Binds {
		binds = append(binds, defined{[]string{b.Name}, b.Pos})
	}
	return datas, classes, binds
}

func modelCheck(p api.Program, vars, cons []string) error {
	datas, classes, binds := modelNames(p)
	if pos := modelTwice(cons, datas); pos >= 0 {
		return &api.At{Pos: pos, Err: api.ErrTwice}
	}
	if pos := modelTwice(vars, append(classes, binds...)); pos >= 0 {
		return &api.At{Pos: pos, Err: api.ErrTwice}
	}
	for _, d := range slices.Concat(datas, classes, binds) {
		vars, cons = append(slices.Clone(vars), d.names...), append(slices.Clone(cons), d.names...)
	}
	var lists [][]api.Bind
	for _, c := range p.Classes {
		lists = append(lists, c.Defaults)
	}
	for _, i := range p.Instances {
		lists = append(lists, i.Binds)
	}
	for _, l := range append(lists, p.Binds) {
		_, first, bodies := metInList(l)
		for _, m := range append(first, bodies...) {
			switch {
			case m.kind == twice:
				return &api.At{Pos: m.pos, Err: api.ErrTwice}
			case m.kind == api.EVar && !slices.Contains(vars, m.name), m.kind == api.ECon && !slices.Contains(cons, m.name):
				return &api.At{Pos: m.pos, Err: api.ErrScope}
			}
		}
	}
	return nil
}

// writer writes programs at random; of one seed, so that each run makes the same ones. One name in so many is any.
type writer struct {
	*rand.Rand
	any        int
	vars, cons []string // those that are known
}

func (w *writer) one(l ...string) string { return l[w.Intn(len(l))] }

// pick is mostly one that is known, now and then any.
func (w *writer) pick(known []string, any string) string {
	if len(known) == 0 || w.Intn(w.any) == 0 {
		return w.one(strings.Fields(any)...)
	}
	return w.one(known...)
}

// fresh is mostly a name that no other one has, now and then any.
func (w *writer) fresh(first string, any string) string {
	if w.Intn(w.any) == 0 {
		return w.one(strings.Fields(any)...)
	}
	return first + strconv.Itoa(w.Intn(1000000))
}

const anyVars, anyCons = "a b c + known", "A B C Known"

func bracketed(name string) string {
	if lexer.Operator(name) {
		return "(" + name + ")"
	}
	return name
}

// within writes what stands where more variables are known.
func (w *writer) within(names []string, write func() string) string {
	before := w.vars
	w.vars = append(slices.Clone(w.vars), names...)
	text := write()
	w.vars = before
	return text
}

func (w *writer) expr(deep int) string {
	if deep <= 0 {
		return w.one(bracketed(w.pick(w.vars, anyVars)), w.pick(w.cons, anyCons), "1", "'x'")
	}
	switch w.Intn(6) {
	case 0:
		return "(" + w.expr(deep-1) + " + " + w.expr(deep-1) + ")"
	case 1:
		name := w.one("a", "b", "+")
		return "(\\" + bracketed(name) + " -> " + w.within([]string{name}, func() string { return w.expr(deep - 1) }) + ")"
	case 2:
		return w.let(deep)
	case 3:
		text := "(case " + w.expr(deep-1) + " of {"
		for range w.Intn(3) {
			text += " " + w.alt(deep) + ";"
		}
		return text + "})"
	}
	return "(" + w.expr(deep-1) + " " + w.expr(deep-1) + ")"
}

// names are some that are mostly apart.
func (w *writer) names(more int) (l []string) {
	for _, name := range []string{"a", "b", "c", "+"} {
		if w.Intn(2) == 0 {
			l = append(l, name)
		}
	}
	if len(l) > 0 && w.Intn(w.any) == 0 {
		l = append(l, l[0])
	}
	return l[:min(more, len(l))]
}

func (w *writer) let(deep int) string {
	names := w.names(4)
	return w.within(names, func() string {
		return "(let {" + w.definitions(names, deep-1) + " } in " + w.expr(deep-1) + ")"
	})
}

func (w *writer) definitions(names []string, deep int) (text string) {
	for _, name := range names {
		text += " " + bracketed(name) + " = " + w.expr(deep) + ";"
	}
	return text
}

func (w *writer) alt(deep int) string {
	names := w.names(5)
	text := w.pick(w.cons, anyCons)
	for _, name := range names {
		text += " " + bracketed(name) + w.one("", " _", " _ _")
	}
	if w.Intn(3) == 0 {
		names = w.names(1)
		text = bracketed(append(slices.Clone(names), "_")[0])
	}
	return text + " -> " + w.within(names, func() string { return w.expr(deep - 1) })
}

func (w *writer) times(most int, write func() string) (text string) {
	for range w.Intn(most + 1) {
		text += write()
	}
	return text
}

// program writes the bodies last: they may have all that the program defines.
func (w *writer) program() string {
	w.vars, w.cons = knownVars(), knownCons()
	text := w.times(3, func() string {
		vars := w.one("", " a", " a b", " a b c")
		if w.Intn(w.any) == 0 {
			vars += " a"
		}
		var cons []string
		for range 1 + w.Intn(2) {
			cons = append(cons, w.fresh("K", anyCons))
		}
		w.cons = append(w.cons, cons...)
		return "data " + w.fresh("T", "T U A") + vars + " = " + strings.Join(cons, " | ") + ";\n"
	})
	var heads []string
	for range w.Intn(3) {
		heads = append(heads, "class "+w.fresh("C", "C D A")+" a where {"+w.times(3, func() string {
			name := w.fresh("m", anyVars)
			w.vars = append(w.vars, name)
			return " " + bracketed(name) + " :: a;"
		}))
	}
	for range w.Intn(3) {
		heads = append(heads, "instance C T where {")
	}
	var names []string
	for range w.Intn(4) {
		names = append(names, w.fresh("x", anyVars))
	}
	w.vars = append(w.vars, names...)
	for _, head := range heads {
		text += head + w.definitions(w.names(3), 3) + " };\n"
	}
	return text + w.definitions(names, 4)
}

func TestFreeByModel(t *testing.T) {
	w := &writer{Rand: rand.New(rand.NewSource(9)), any: 2}
	for range 10000 {
		w.vars, w.cons = nil, nil
		text := w.expr(w.Intn(7))
		e := readExpr(text)
		if got, want := scope.Free(e), modelFree(e); !slices.Equal(got, want) {
			t.Fatalf("%s: %q; want %q", text, got, want)
		}
	}
}

func TestCheckByModel(t *testing.T) {
	seen := map[string]int{}
	for _, any := range []int{8, 30, 100, 1000} {
		w := &writer{Rand: rand.New(rand.NewSource(int64(any))), any: any}
		for range 3000 {
			text := w.program()
			p := readProgram(text)
			got, want := scope.Check(p, knownVars(), knownCons()), modelCheck(p, knownVars(), knownCons())
			if say(got) != say(want) {
				t.Fatalf("%s: %s; want %s", text, say(got), say(want))
			}
			_, what, _ := strings.Cut(say(got), ": ")
			seen[what]++
		}
	}
	// Were nearly all programs of one kind, the others would hardly be asked for.
	for _, what := range []string{"", "a name twice", "a name that is nobody's"} {
		if seen[what] < 2000 {
			t.Errorf("%q: %d programs", what, seen[what])
		}
	}
}

// What Names tells is what Check knows: programs are well one after the other as they are together.
func TestNamesByCheck(t *testing.T) {
	w := &writer{Rand: rand.New(rand.NewSource(4)), any: 1000}
	for range 2000 {
		p := readProgram(w.program())
		if scope.Check(p, knownVars(), knownCons()) != nil {
			continue
		}
		vars, cons := scope.Names(p)
		bodies := api.Program{Instances: []api.Instance{{Binds: p.Binds}}}
		if err := scope.Check(bodies, append(knownVars(), vars...), append(knownCons(), cons...)); err != nil {
			t.Fatalf("%s: %s", printer.Program(p), say(err))
		}
		if len(p.Binds) > 0 {
			if err := scope.Check(p, vars, knownCons()); !isAtTwice(err) {
				t.Fatalf("%s: %s", printer.Program(p), say(err))
			}
		}
	}
}

func isAtTwice(err error) bool {
	at, ok := err.(*api.At)
	return ok && at.Err == api.ErrTwice
}
