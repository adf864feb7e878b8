package cons_test

import (
	"errors"
	"fmt"
	"math/rand"
	"slices"
	"testing"

	"paideia/api"
	"paideia/cons"
	"paideia/types"
)

// The model has one list of definitions, and goes through all of it whatever is asked; parts come by types.All.

func modelArity(l []api.Data, name string) (int, bool) {
	for _, d := range append([]api.Data{{Name: "Int"}, {Name: "Char"}}, l...) {
		if d.Name == name {
			return len(d.Vars), true
		}
	}
	return 0, false
}

func modelConstructor(l []api.Data, con string) (api.Data, int, bool) {
	for _, d := range l {
		for i, c := range d.Cons {
			if c.Name == con {
				return d, i, true
			}
		}
	}
	return api.Data{}, 0, false
}

func modelKind(l []api.Data, t api.Type) error {
	for part := range types.All(t) {
		if part.Kind != api.TCon {
			continue
		}
		n, is := modelArity(l, part.Name)
		if !is {
			return api.ErrScope
		}
		if n != len(part.Args) {
			return api.ErrKind
		}
	}
	return nil
}

// modelTwice says whether a name of the definition is there, or twice.
func modelTwice(l []api.Data, d api.Data) bool {
	if _, is := modelArity(l, d.Name); is {
		return true
	}
	for i, c := range d.Cons {
		if _, _, is := modelConstructor(append(slices.Clone(l), api.Data{Cons: d.Cons[:i]}), c.Name); is {
			return true
		}
	}
	return false
}

func modelArguments(l []api.Data, d api.Data) error {
	for _, c := range d.Cons {
		for _, t := range c.Args {
			if err := modelKind(l, t); err != nil {
				return err
			}
			for part := range types.All(t) {
				if part.Kind == api.TVar && !slices.Contains(d.Vars, part.Name) {
					return api.ErrScope
				}
			}
		}
	}
	return nil
}

func modelAdd(l []api.Data, more []api.Data) ([]api.Data, error) {
	all := slices.Concat(l, more)
	for i, d := range more {
		if modelTwice(all[:len(l)+i], d) {
			return l, &api.At{Pos: d.Pos, Err: api.ErrTwice}
		}
	}
	for _, d := range more {
		if err := modelArguments(all, d); err != nil {
			return l, &api.At{Pos: d.Pos, Err: err}
		}
	}
	return all, nil
}

func modelScheme(l []api.Data, con string) (api.Scheme, bool) {
	d, i, is := modelConstructor(l, con)
	if !is {
		return api.Scheme{}, false
	}
	t := api.Type{Kind: api.TCon, Name: d.Name}
	for _, name := range d.Vars {
		t.Args = append(t.Args, api.Type{Kind: api.TVar, Name: name})
	}
	for _, arg := range slices.Backward(d.Cons[i].Args) {
		t = api.Type{Kind: api.TFun, Args: []api.Type{arg, t}}
	}
	return api.Scheme{Vars: d.Vars, Type: t}, true
}

// modelTell is tellOf by the model.
func modelTell(l []api.Data, name string) string {
	n, is := modelArity(l, name)
	text := fmt.Sprintf("%s: %d %t", name, n, is)
	s, is := modelScheme(l, name)
	text += fmt.Sprintf("; %v %t", s, is)
	d, place, is := modelConstructor(l, name)
	text += fmt.Sprintf("; %s %d %t", d.Name, place, is)
	at := slices.IndexFunc(l, func(d api.Data) bool { return d.Name == name })
	if d = (api.Data{}); at >= 0 {
		d = l[at]
	}
	text += fmt.Sprintf("; %v %t", d, at >= 0)
	for n := range 3 {
		args := slices.Repeat([]api.Type{{Kind: api.TVar, Name: "a"}}, n)
		text += fmt.Sprintf("; %v", modelKind(l, api.Type{Kind: api.TCon, Name: name, Args: args}))
	}
	return text + "\n"
}

// maker makes definitions at random; of one seed, so that each run makes the same ones.
type maker struct {
	*rand.Rand
	arities map[string]int // as many as most uses have, so that there are rows in which nothing is amiss
	there   []string       // what most types are made of
}

func modelNames() []string { return []string{"Int", "Char", "A", "B", "D", "E", "F", "G"} }

func newMaker(r *rand.Rand) maker {
	m := maker{Rand: r, arities: map[string]int{}}
	for _, name := range modelNames()[2:] {
		m.arities[name] = r.Intn(3)
	}
	return m
}

func (m maker) one(l ...string) string { return l[m.Intn(len(l))] }

// typ is well, but for some part now and then.
func (m maker) typ(deep int, vars []string) api.Type {
	if m.Intn(40) == 0 {
		return types.Var(m.one("a", "b", "c"))
	}
	if len(vars) > 0 && m.Intn(3) == 0 {
		return types.Var(m.one(vars...))
	}
	if deep > 0 && m.Intn(3) == 0 {
		return types.Fun(m.typ(deep-1, vars), m.typ(deep-1, vars))
	}
	name := m.one(m.there...)
	if m.Intn(40) == 0 {
		name = m.one(modelNames()...)
	}
	n := m.arities[name]
	if m.Intn(15) == 0 {
		n = m.Intn(3)
	}
	if deep <= 0 && n > 0 {
		return types.Con("Int")
	}
	var args []api.Type
	for range n {
		args = append(args, m.typ(deep-1, vars))
	}
	return types.Con(name, args...)
}

func (m maker) data(name string, pos int) api.Data {
	d := api.Data{Name: name, Vars: []string{"a", "b"}[:m.arities[name]], Pos: pos}
	for _, i := range m.Perm(13)[:m.Intn(3)] {
		c := api.Con{Name: string(rune('K' + i))}
		for range m.Intn(3) {
			c.Args = append(c.Args, m.typ(m.Intn(4), d.Vars))
		}
		d.Cons = append(d.Cons, c)
	}
	if m.Intn(3) == 0 {
		d.Deriving = []string{"Eq"}
	}
	return d
}

// row is some definitions, made of each other and of those that are there.
func (m maker) row(l []api.Data) (row []api.Data) {
	m.there = []string{"Int", "Char"}
	for _, d := range l {
		m.there = append(m.there, d.Name)
	}
	names := slices.DeleteFunc(modelNames(), func(name string) bool { return slices.Contains(m.there, name) })
	if len(names) == 0 || m.Intn(8) == 0 {
		names = modelNames()
	}
	m.Shuffle(len(names), func(i, j int) { names[i], names[j] = names[j], names[i] })
	names = names[:min(m.Intn(4), len(names))]
	m.there = append(m.there, names...)
	for i, name := range names {
		row = append(row, m.data(name, i+1))
	}
	return row
}

func TestByModel(t *testing.T) {
	r := rand.New(rand.NewSource(11))
	seen := map[error]int{}
	for range 2000 {
		m := newMaker(r)
		var e cons.Env
		var l []api.Data
		for range 1 + r.Intn(12) {
			row := m.row(l)
			next, want := modelAdd(l, row)
			if got := e.Add(row...); say(got) != say(want) {
				t.Fatalf("%v, %v: %s; want %s", l, row, say(got), say(want))
			}
			if len(row) > 0 {
				seen[errors.Unwrap(want)]++
			}
			l = next
			isModel(t, &e, l)
			m.there = modelNames()[:2+r.Intn(7)]
			x := m.typ(4, []string{"a", "z"})
			if got, want := e.Kind(x), modelKind(l, x); got != want {
				t.Fatalf("%v, %v: %v; want %v", l, x, got, want)
			}
		}
	}
	// Were all of them well, or most amiss, little would be asked for.
	for what, n := range seen {
		if n < 200 {
			t.Errorf("%v: %d", what, n)
		}
	}
	if len(seen) != 4 {
		t.Error(seen)
	}
}

// isModel asks for all that is told of all names.
func isModel(t *testing.T, e *cons.Env, l []api.Data) {
	t.Helper()
	for _, name := range append(modelNames(), "", "K", "L", "M", "N", "O", "P", "Q", "R", "S", "T", "U", "V", "W") {
		if got, want := tellOf(e, name), modelTell(l, name); got != want {
			t.Fatalf("%v: %s; want %s", l, got, want)
		}
	}
	if got, want := fmt.Sprintf("%v", e.Datas()), fmt.Sprintf("%v", l); got != want {
		t.Fatalf("%s; want %s", got, want)
	}
}
