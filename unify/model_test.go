package unify_test

import (
	"math/rand"
	"slices"
	"strings"
	"testing"

	"paideia/api"
	"paideia/subst"
	"paideia/types"
	"paideia/unify"
)

// dice makes types; of one seed, so that each run makes the same ones.
type dice struct {
	*rand.Rand
	names int
}

func (d dice) name() string { return string(rune('a' + d.Intn(d.names))) }

func (d dice) typ(deep int) api.Type {
	switch n := d.Intn(5); {
	case deep == 0 || n < 2:
		if d.Intn(6) == 0 {
			return tcon("I")
		}
		return tvar(d.name())
	case n == 2:
		return tfun(d.typ(deep-1), d.typ(deep-1))
	case n == 3 && d.Intn(8) == 0:
		return tcon("L", d.typ(deep-1), d.typ(deep-1))
	case n == 3:
		return tcon("L", d.typ(deep-1))
	}
	return tcon("P", d.typ(deep-1), d.typ(deep-1))
}

func (d dice) pairs(most, deep int) (l []pair) {
	for range d.Intn(most + 1) {
		l = append(l, pair{d.typ(d.Intn(deep + 1)), d.typ(d.Intn(deep + 1))})
	}
	return l
}

// model is the chapter's words one by one: what was found so far is in it, with itself applied.
type model []subst.Pair

func (m model) apply(t api.Type) api.Type {
	if t.Kind == api.TVar {
		for _, p := range m {
			if p.Name == t.Name {
				return p.Type
			}
		}
		return t
	}
	args := make([]api.Type, len(t.Args))
	for i, x := range t.Args {
		args[i] = m.apply(x)
	}
	t.Args = args
	return t
}

func stands(name string, t api.Type) bool {
	if t.Kind == api.TVar {
		return t.Name == name
	}
	return slices.ContainsFunc(t.Args, func(x api.Type) bool { return stands(name, x) })
}

func (m *model) bind(name string, t api.Type) error {
	if stands(name, t) {
		return api.ErrOccur
	}
	one := model{{Name: name, Type: t}}
	for i, p := range *m {
		(*m)[i].Type = one.apply(p.Type)
	}
	*m = append(*m, one...)
	return nil
}

func (m *model) join(a, b api.Type) error {
	a, b = m.apply(a), m.apply(b)
	switch {
	case a.Kind == api.TVar && b.Kind == api.TVar && a.Name == b.Name:
		return nil
	case a.Kind == api.TVar:
		return m.bind(a.Name, b)
	case b.Kind == api.TVar:
		return m.bind(b.Name, a)
	case a.Kind != b.Kind || a.Name != b.Name || len(a.Args) != len(b.Args):
		return api.ErrType
	}
	for i := range a.Args {
		if err := m.join(a.Args[i], b.Args[i]); err != nil {
			return err
		}
	}
	return nil
}

func modelAll(l []pair) (model, error) {
	var m model
	for _, x := range l {
		if err := m.join(x[0], x[1]); err != nil {
			return nil, err
		}
	}
	return m, nil
}

// agree holds an answer against the model's, and tells which it was.
func agree(t *testing.T, l []pair) string {
	t.Helper()
	s, err := answer(t, l)
	m, want := modelAll(l)
	got, asked := say(s, err), say(subst.Of(m...), want)
	if got != asked {
		t.Fatalf("%s: %s; want %s", show(l), got, asked)
	}
	if again := say(unify.All(l...)); again != got {
		t.Fatalf("%s: %s; then %s", show(l), got, again)
	}
	switch {
	case err != nil:
		return got
	case s.Len() == 0:
		return "nothing"
	}
	obeys(t, l, s)
	return "types"
}

// enough asks that the dice have made of each answer some.
func enough(t *testing.T, seen map[string]int, least int) {
	t.Helper()
	for _, x := range []string{"ErrType", "ErrOccur", "nothing", "types"} {
		if seen[x] < least {
			t.Errorf("only %d times: %s", seen[x], x)
		}
	}
}

func TestModelOfTwo(t *testing.T) {
	seen := map[string]int{}
	for names := 1; names <= 8; names++ {
		d := dice{rand.New(rand.NewSource(int64(names))), names}
		for range 3000 {
			a, b := d.typ(5), d.typ(5)
			seen[agree(t, []pair{{a, b}})]++
		}
	}
	enough(t, seen, 400)
}

func TestModelOfMany(t *testing.T) {
	seen := map[string]int{}
	for names := 1; names <= 9; names++ {
		d := dice{rand.New(rand.NewSource(int64(names))), names}
		for range 4000 {
			seen[agree(t, d.pairs(7, 2))]++
			seen[agree(t, d.pairs(4, 4))]++
		}
	}
	enough(t, seen, 400)
}

// holed is a type with variables in some places, which by v is that type: the same type in the place of the same variable, if it is there already.
func (d dice) holed(t api.Type, v map[string]api.Type, prefix string) api.Type {
	if d.Intn(4) == 0 {
		name := prefix + d.name()
		if have, found := v[name]; !found || types.Same(have, t) {
			v[name] = t
			return tvar(name)
		}
	}
	args := make([]api.Type, len(t.Args))
	for i, x := range t.Args {
		args[i] = d.holed(x, v, prefix)
	}
	t.Args = args
	return t
}

// Two types of which one is made by some types of their variables are one, and by the most general ones: whatever makes them one makes of each found type what it makes of its variable.
func TestMostGeneral(t *testing.T) {
	d := dice{rand.New(rand.NewSource(9)), 5}
	found := 0
	for range 4000 {
		v := map[string]api.Type{}
		whole := d.typ(5)
		prefixes := []string{"x", d.pick("x", "y")}
		a, b := d.holed(whole, v, prefixes[0]), d.holed(whole, v, prefixes[1])
		for _, name := range types.Vars(whole) {
			v[name] = tvar(name)
		}
		by := subst.Of(ofMap(v)...)
		for _, l := range [][]pair{{{a, b}}, {{b, a}}, {{a, b}, {b, whole}}} {
			s, err := answer(t, l)
			if err != nil {
				t.Fatalf("%s: %v; %s makes them one", show(l), err, say(by, nil))
			}
			obeys(t, l, s)
			for name, x := range s.Pairs() {
				found++
				if !types.Same(by.Apply(x), by.Apply(tvar(name))) {
					t.Fatalf("%s: %s; %s is no case of it", show(l), say(s, nil), say(by, nil))
				}
			}
			agree(t, l)
		}
	}
	if found < 10000 {
		t.Error(found)
	}
}

func (d dice) pick(l ...string) string { return l[d.Intn(len(l))] }

func ofMap(v map[string]api.Type) (l []subst.Pair) {
	for name, x := range v {
		l = append(l, subst.Pair{Name: name, Type: x})
	}
	slices.SortFunc(l, func(a, b subst.Pair) int { return strings.Compare(a.Name, b.Name) })
	return l
}

// Whichever way round two types are handed in they are one by the same types, but for names.
func TestEitherWayRound(t *testing.T) {
	d := dice{rand.New(rand.NewSource(10)), 6}
	for range 6000 {
		a, b := d.typ(4), d.typ(4)
		l := []pair{{a, b}}
		s, err := answer(t, l)
		swapped(t, l, s, err)
		if err != nil {
			continue
		}
		back, _ := unify.Unify(b, a)
		one, other := s.Apply(a), back.Apply(a)
		if types.Size(one) != types.Size(other) || len(types.Vars(one)) != len(types.Vars(other)) || !types.Same(other, back.Apply(one)) || !types.Same(one, s.Apply(other)) {
			t.Fatalf("%s: %s; %s", show(l), say(s, nil), say(back, nil))
		}
	}
}
