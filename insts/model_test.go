package insts_test

import (
	"errors"
	"fmt"
	"math/rand"
	"slices"
	"testing"

	"paideia/api"
	"paideia/insts"
	"paideia/types"
)

// The model has one list of instances, and goes through all of it whatever is asked; it knows the types and the classes of base by heart.

func modelArities() map[string]int {
	return map[string]int{"Int": 0, "Char": 0, "U": 0, "L": 1, "P": 2, "W": 3}
}

func modelMethods() map[string][]string {
	return map[string][]string{"A": {"p", "q"}, "B": {"r", "s", "=="}, "D": nil, "E": {"t"}}
}

func modelFind(l []api.Instance, class, con string) (api.Instance, bool) {
	for _, i := range l {
		if i.Class == class && i.Con == con {
			return i, true
		}
	}
	return api.Instance{}, false
}

// isTwiceThere says whether a name stands twice in a list.
func isTwiceThere(l []string) bool {
	for n, x := range l {
		if slices.Contains(l[:n], x) {
			return true
		}
	}
	return false
}

func modelLook(l []api.Instance, i api.Instance) error {
	methods, isClass := modelMethods()[i.Class]
	arity, isType := modelArities()[i.Con]
	_, isThere := modelFind(l, i.Class, i.Con)
	isNoClass := func(p api.Pred) bool { return !slices.Contains([]string{"A", "B", "D", "E"}, p.Class) }
	isNoVariable := func(p api.Pred) bool {
		return !slices.ContainsFunc(i.Vars, func(name string) bool { return types.Same(p.Type, types.Var(name)) })
	}
	isNoMethod := func(b api.Bind) bool { return !slices.Contains(methods, b.Name) }
	var names []string
	for _, b := range i.Binds {
		names = append(names, b.Name)
	}
	switch {
	case !isClass:
		return api.ErrClass
	case !isType:
		return api.ErrScope
	case len(i.Vars) != arity:
		return api.ErrKind
	case isTwiceThere(i.Vars) || isThere:
		return api.ErrTwice
	case slices.ContainsFunc(i.Context, isNoClass):
		return api.ErrClass
	case slices.ContainsFunc(i.Context, isNoVariable):
		return api.ErrScope
	case slices.ContainsFunc(i.Binds, isNoMethod):
		return api.ErrClass
	case isTwiceThere(names):
		return api.ErrTwice
	}
	return nil
}

func modelAdd(l, more []api.Instance) ([]api.Instance, error) {
	all := slices.Clone(l)
	for _, i := range more {
		if err := modelLook(all, i); err != nil {
			return l, &api.At{Pos: i.Pos, Err: err}
		}
		all = append(all, i)
	}
	return all, nil
}

// maker makes instances at random; of one seed, so that each run makes the same ones.
type maker struct{ *rand.Rand }

func (m maker) one(l ...string) string { return l[m.Intn(len(l))] }

func (m maker) seldom() bool { return m.Intn(25) == 0 }

// or is a name, or seldom one of some others.
func (m maker) or(name string, others ...string) string {
	if m.seldom() {
		return m.one(others...)
	}
	return name
}

func (m maker) context(vars []string) (l []api.Pred) {
	if len(vars) == 0 && !m.seldom() {
		return nil
	}
	for range m.Intn(4) {
		p := api.Pred{Class: m.or(m.one("A", "B", "D", "E"), "Q", "L", ""), Type: types.Var(m.one(append(vars, "a")...))}
		if m.seldom() {
			p.Type = []api.Type{types.Con("Int"), types.Con("a"), types.Var("z"), types.Fun(types.Var("a"), types.Var("b")), {}}[m.Intn(5)]
		}
		l = append(l, p)
	}
	return l
}

func (m maker) binds(class string) (l []api.Bind) {
	for _, name := range modelMethods()[class] {
		if m.Intn(2) == 0 {
			l = append(l, api.Bind{Name: m.or(name, "p", "r", "t", "z"), Body: api.Expr{Kind: api.EInt, N: m.Int63()}})
		}
	}
	if len(l) > 0 && m.seldom() {
		l = append(l, l[m.Intn(len(l))])
	}
	m.Shuffle(len(l), func(i, j int) { l[i], l[j] = l[j], l[i] })
	return l
}

func (m maker) instance(pos int) api.Instance {
	class, con := m.one("A", "B", "D", "E"), m.one("Int", "Char", "U", "L", "P", "W")
	vars := []string{"a", "b", "c", "d"}
	m.Shuffle(len(vars), func(i, j int) { vars[i], vars[j] = vars[j], vars[i] })
	vars = vars[:modelArities()[con]]
	if m.seldom() {
		vars = vars[:m.Intn(4)]
	}
	if len(vars) > 1 && m.seldom() {
		vars[len(vars)-1] = vars[0]
	}
	return api.Instance{Class: m.or(class, "Q", "L", ""), Con: m.or(con, "Q", "A", "N", "", "->"), Vars: vars, Context: m.context(slices.Clip(vars)), Binds: m.binds(class), Pos: pos}
}

// row is some instances; few are there already.
func (m maker) row(l []api.Instance) (row []api.Instance) {
	for n := range m.Intn(5) {
		i := m.instance(n + 1)
		if _, is := modelFind(append(row, l...), i.Class, i.Con); !is || m.Intn(3) == 0 {
			row = append(row, i)
		}
	}
	return row
}

func TestByModel(t *testing.T) {
	m := maker{rand.New(rand.NewSource(13))}
	c, k := typesOf(base), classesOf(base)
	seen := map[error]int{}
	for range 3000 {
		var e insts.Env
		var l []api.Instance
		for range 1 + m.Intn(6) {
			row := m.row(l)
			next, want := modelAdd(l, row)
			if got := e.Add(c, k, row...); say(got) != say(want) {
				t.Fatalf("%v, %v: %s; want %s", l, row, say(got), say(want))
			}
			if len(row) > 0 {
				seen[errors.Unwrap(want)]++
			}
			l = next
			isModel(t, &e, l)
		}
	}
	// Were all of them well, or most amiss, little would be asked for.
	for what, n := range seen {
		if n < 200 {
			t.Errorf("%v: %d", what, n)
		}
	}
	if len(seen) != 5 {
		t.Error(seen)
	}
}

// isModel asks for all that is told of all names.
func isModel(t *testing.T, e *insts.Env, l []api.Instance) {
	t.Helper()
	for _, class := range []string{"A", "B", "D", "E", "Q", "L", ""} {
		for _, con := range []string{"Int", "Char", "U", "L", "P", "W", "Q", "A", "N", "", "->"} {
			got, is := e.Find(class, con)
			want, isThere := modelFind(l, class, con)
			if is != isThere || fmt.Sprint(got) != fmt.Sprint(want) {
				t.Fatalf("%v: %s %s: %v, %t; want %v", l, class, con, got, is, want)
			}
		}
	}
	if got, want := fmt.Sprint(slices.Collect(e.All())), fmt.Sprint(l); got != want {
		t.Fatalf("%s; want %s", got, want)
	}
}
