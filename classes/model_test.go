package classes_test

import (
	"errors"
	"fmt"
	"math/rand"
	"slices"
	"testing"

	"paideia/api"
	"paideia/classes"
	"paideia/cons"
	"paideia/types"
)

// The model has one list of classes, and goes through all of it whatever is asked.

func modelClass(l []api.Class, name string) (api.Class, bool) {
	for _, k := range l {
		if k.Name == name {
			return k, true
		}
	}
	return api.Class{}, false
}

func modelMethod(l []api.Class, name string) (api.Class, int, bool) {
	for _, k := range l {
		for i, m := range k.Methods {
			if m.Name == name {
				return k, i, true
			}
		}
	}
	return api.Class{}, 0, false
}

func modelScheme(l []api.Class, name string) (api.Scheme, bool) {
	k, i, is := modelMethod(l, name)
	if !is {
		return api.Scheme{}, false
	}
	s := api.Scheme{Vars: []string{k.Var}, Context: []api.Pred{{Class: k.Name, Type: types.Var(k.Var)}}, Type: k.Methods[i].Type}
	for part := range types.All(s.Type) {
		if part.Kind == api.TVar && !slices.Contains(s.Vars, part.Name) {
			s.Vars = append(s.Vars, part.Name)
		}
	}
	return s, true
}

// modelAbove tells all ways up, and leaves out what came already; none of the classes is above itself.
func modelAbove(l []api.Class, name string) (above []string) {
	k, _ := modelClass(l, name)
	for _, super := range k.Supers {
		for _, next := range append([]string{super}, modelAbove(l, super)...) {
			if !slices.Contains(above, next) {
				above = append(above, next)
			}
		}
	}
	return above
}

// modelAboveItself says whether a class' name comes up within as many steps as there are classes.
func modelAboveItself(l []api.Class, name string) bool {
	step := []string{name}
	for range l {
		var next []string
		for _, k := range l {
			if slices.Contains(step, k.Name) {
				next = append(next, k.Supers...)
			}
		}
		step = next
		if slices.Contains(step, name) {
			return true
		}
	}
	return false
}

// modelTwice says whether a name of the class is there, or twice.
func modelTwice(l []api.Class, k api.Class) bool {
	if _, is := modelClass(l, k.Name); is {
		return true
	}
	for i, m := range k.Methods {
		if _, _, is := modelMethod(append(slices.Clone(l), api.Class{Methods: k.Methods[:i]}), m.Name); is {
			return true
		}
	}
	for i, super := range k.Supers {
		if slices.Contains(k.Supers[:i], super) {
			return true
		}
	}
	return false
}

func modelLook(c *cons.Env, l []api.Class, k api.Class) error {
	for _, super := range k.Supers {
		if _, is := modelClass(l, super); !is {
			return api.ErrClass
		}
	}
	if modelAboveItself(l, k.Name) {
		return api.ErrClass
	}
	for _, m := range k.Methods {
		if err := c.Kind(m.Type); err != nil {
			return err
		}
		if !slices.Contains(types.Vars(m.Type), k.Var) {
			return api.ErrClass
		}
	}
	for i, b := range k.Defaults {
		if _, _, is := modelMethod([]api.Class{k}, b.Name); !is {
			return api.ErrClass
		}
		if slices.ContainsFunc(k.Defaults[:i], func(x api.Bind) bool { return x.Name == b.Name }) {
			return api.ErrClass
		}
	}
	return nil
}

func modelAdd(c *cons.Env, l, more []api.Class) ([]api.Class, error) {
	all := slices.Concat(l, more)
	for i, k := range more {
		if modelTwice(all[:len(l)+i], k) {
			return l, &api.At{Pos: k.Pos, Err: api.ErrTwice}
		}
	}
	for _, k := range more {
		if err := modelLook(c, all, k); err != nil {
			return l, &api.At{Pos: k.Pos, Err: err}
		}
	}
	return all, nil
}

// modelTell is tellOf by the model.
func modelTell(l []api.Class, name string) string {
	k, is := modelClass(l, name)
	text := fmt.Sprintf("%s: %v %t", name, k, is)
	of, place, is := modelMethod(l, name)
	text += fmt.Sprintf("; %s %d %t", of.Name, place, is)
	s, is := modelScheme(l, name)
	return text + fmt.Sprintf("; %v %t; %q\n", s, is, modelAbove(l, name))
}

// maker makes classes at random; of one seed, so that each run makes the same ones.
type maker struct{ *rand.Rand }

func modelNames() []string { return []string{"A", "B", "D", "E", "Q", "X", "Y", "Z"} }

func modelMethods() []string {
	return []string{"k", "m", "n", "o", "p", "q", "r", "s", "t", "u", "v", "w", "==", "<", "A", "Q"}
}

func (m maker) seldom() bool { return m.Intn(20) == 0 }

func (m maker) one(l ...string) string { return l[m.Intn(len(l))] }

// typ is well, but for some part now and then.
func (m maker) typ(deep int, vars ...string) api.Type {
	arities := map[string]int{"Int": 0, "Char": 0, "U": 0, "L": 1, "P": 2}
	switch {
	case deep <= 0 || m.Intn(3) == 0:
		return types.Var(m.one(vars...))
	case m.Intn(2) == 0:
		return types.Fun(m.typ(deep-1, vars...), m.typ(deep-1, vars...))
	}
	name := m.one("Int", "Char", "U", "L", "P")
	n := arities[name]
	if m.Intn(10) == 0 {
		n = m.Intn(3)
	}
	if m.seldom() {
		name = m.one("T", "A", "N")
	}
	var args []api.Type
	for range n {
		args = append(args, m.typ(deep-1, vars...))
	}
	return types.Con(name, args...)
}

// class is one of some methods, below some of those that may be above it.
func (m maker) class(name string, methods, above []string, pos int) api.Class {
	k := api.Class{Name: name, Var: m.one("a", "b"), Pos: pos}
	for _, i := range m.Perm(len(above))[:m.Intn(min(4, len(above)+1))] {
		k.Supers = append(k.Supers, above[i])
	}
	if m.seldom() {
		k.Supers = append(k.Supers, m.one(modelNames()...))
	}
	for _, method := range methods {
		t := m.typ(m.Intn(4), "a", "b", "c")
		if !m.seldom() {
			t = types.Fun(t, types.Var(k.Var))
		}
		k.Methods = append(k.Methods, api.Method{Name: method, Type: t})
		if m.Intn(3) == 0 {
			k.Defaults = append(k.Defaults, api.Bind{Name: method, Body: api.Expr{Kind: api.EInt, N: m.Int63()}})
		}
	}
	if m.seldom() {
		k.Defaults = append(k.Defaults, api.Bind{Name: m.one(append(methods, "m")...)})
	}
	m.Shuffle(len(k.Defaults), func(i, j int) { k.Defaults[i], k.Defaults[j] = k.Defaults[j], k.Defaults[i] })
	return k
}

// left are those of some names that are not taken; seldom all of them; in some order.
func (m maker) left(names, taken []string) []string {
	left := slices.DeleteFunc(slices.Clone(names), func(name string) bool { return slices.Contains(taken, name) })
	if m.seldom() {
		left = names
	}
	m.Shuffle(len(left), func(i, j int) { left[i], left[j] = left[j], left[i] })
	return left
}

// row is some classes, with classes above them of their own row, mostly such as came ahead of them when they were made, and of those that are there.
func (m maker) row(l []api.Class) (row []api.Class) {
	var there, methods []string
	for _, k := range l {
		there = append(there, k.Name)
		for _, x := range k.Methods {
			methods = append(methods, x.Name)
		}
	}
	names := m.left(modelNames(), there)
	names = names[:min(m.Intn(5), len(names))]
	left := m.left(modelMethods(), methods)
	for i, name := range names {
		n := min(m.Intn(3), len(left))
		above := append(slices.Clone(there), names[:i]...)
		if m.Intn(15) == 0 {
			above = append(above, names[i:]...)
		}
		row = append(row, m.class(name, left[:n], above, i+1))
		left = left[n:]
	}
	m.Shuffle(len(row), func(i, j int) { row[i], row[j] = row[j], row[i] })
	return row
}

func TestByModel(t *testing.T) {
	r := rand.New(rand.NewSource(12))
	seen := map[error]int{}
	c := someTypes()
	for range 3000 {
		m := maker{r}
		var e classes.Env
		var l []api.Class
		for range 1 + r.Intn(6) {
			row := m.row(l)
			next, want := modelAdd(c, l, row)
			if got := e.Add(c, row...); say(got) != say(want) {
				t.Fatalf("%v, %v: %s; want %s", l, row, say(got), say(want))
			}
			if len(row) > 0 {
				seen[errors.Unwrap(want)]++
			}
			l = next
			isModel(t, &e, l)
		}
	}
	// Were all of them well, or most amiss, little would be asked for.
	for what, n := range seen {
		if n < 200 {
			t.Errorf("%v: %d", what, n)
		}
	}
	if len(seen) != 5 {
		t.Error(seen)
	}
}

// isModel asks for all that is told of all names.
func isModel(t *testing.T, e *classes.Env, l []api.Class) {
	t.Helper()
	for _, name := range slices.Concat(modelNames(), modelMethods(), []string{"", "W", "x"}) {
		if got, want := tellOf(e, name), modelTell(l, name); got != want {
			t.Fatalf("%v: %s; want %s", l, got, want)
		}
	}
	if got, want := fmt.Sprintf("%v", e.Classes()), fmt.Sprintf("%v", l); got != want {
		t.Fatalf("%s; want %s", got, want)
	}
}

// Every way in which four classes may stand above one another.
func TestEveryGraphOfFour(t *testing.T) {
	names := []string{"W", "X", "Y", "Z"}
	var well int
	for graph := range 1 << 16 {
		l := make([]api.Class, 4)
		for i := range l {
			l[i] = api.Class{Name: names[i], Var: "a", Pos: i + 1}
			for j := range names {
				if graph>>(4*i+j)&1 == 1 {
					l[i].Supers = append(l[i].Supers, names[j])
				}
			}
		}
		var e classes.Env
		got := e.Add(&cons.Env{}, l...)
		at := slices.IndexFunc(l, func(k api.Class) bool { return modelAboveItself(l, k.Name) })
		if at < 0 {
			well++
			isAbove(t, &e, map[string][]string{"W": modelAbove(l, "W"), "X": modelAbove(l, "X"), "Y": modelAbove(l, "Y"), "Z": modelAbove(l, "Z")})
		}
		if want := (&api.At{Pos: at + 1, Err: api.ErrClass}); at < 0 && got != nil || at >= 0 && say(got) != say(want) {
			t.Fatalf("%v: %s; want it around %d", l, say(got), at+1)
		}
	}
	if well != 543 { // as many as there are graphs of four without rings
		t.Error(well)
	}
}
