package match_test

import (
	"math/rand"
	"slices"
	"strings"
	"testing"

	"paideia/api"
	"paideia/match"
	"paideia/subst"
	"paideia/types"
	"paideia/unify"
)

// dice makes types; of one seed, so that each run makes the same ones.
type dice struct {
	*rand.Rand
	names int
}

func (d dice) name() string { return string(rune('a' + d.Intn(d.names))) }

func (d dice) typ(deep int) api.Type {
	switch n := d.Intn(5); {
	case deep == 0 || n < 2:
		if d.Intn(6) == 0 {
			return tcon("I")
		}
		return tvar(d.name())
	case n == 2:
		return tfun(d.typ(deep-1), d.typ(deep-1))
	case n == 3 && d.Intn(8) == 0:
		return tcon("L", d.typ(deep-1), d.typ(deep-1))
	case n == 3:
		return tcon("L", d.typ(deep-1))
	}
	return tcon("P", d.typ(deep-1), d.typ(deep-1))
}

// some are types for some of the dice's variables.
func (d dice) some() subst.Subst {
	var l []subst.Pair
	for range d.Intn(d.names + 1) {
		l = append(l, subst.Pair{Name: d.name(), Type: d.typ(d.Intn(3))})
	}
	return subst.Of(l...)
}

// changed is a type with one part changed, or none.
func (d dice) changed(t api.Type) api.Type {
	if len(t.Args) == 0 || d.Intn(4) == 0 {
		return d.typ(1)
	}
	args := slices.Clone(t.Args)
	i := d.Intn(len(args))
	args[i] = d.changed(args[i])
	t.Args = args
	return t
}

// frozen is a type with constructors in its variables' places, whose names no type of the dice has; melted is back.
func frozen(t api.Type) api.Type {
	if t.Kind == api.TVar {
		return tcon("var " + t.Name)
	}
	return each(t, frozen)
}

func melted(t api.Type) api.Type {
	if name, found := strings.CutPrefix(t.Name, "var "); found {
		return tvar(name)
	}
	return each(t, melted)
}

func each(t api.Type, of func(api.Type) api.Type) api.Type {
	var args []api.Type
	for _, x := range t.Args {
		args = append(args, of(x))
	}
	t.Args = args
	return t
}

// model is Match as the chapter draws it: what makes the two one, where the second's variables are constructors.
func model(a, b api.Type) string {
	s, err := unify.Unify(a, frozen(b))
	if err != nil {
		return "no"
	}
	var l []subst.Pair
	for name, x := range s.Pairs() {
		l = append(l, subst.Pair{Name: name, Type: melted(x)})
	}
	return say(subst.Of(l...), true)
}

// sameButNames is Both as the chapter draws it: the variables of each in order, one for one, and nothing else that differs.
func sameButNames(a, b api.Type) bool {
	from, to := types.Vars(a), types.Vars(b)
	return len(from) == len(to) && types.Same(subst.Rename(a, from, to), b)
}

// agree holds the answers against the models, and counts them.
func agree(t *testing.T, seen map[string]int, a, b api.Type) {
	t.Helper()
	s, is := answer(t, a, b)
	got := say(s, is)
	if want := model(a, b); got != want {
		t.Fatalf("%s: %s; want %s", show(a, b), got, want)
	}
	if again := say(match.Match(a, b)); again != got {
		t.Fatalf("%s: %s; then %s", show(a, b), got, again)
	}
	if want := sameButNames(a, b); match.Both(a, b) != want || match.Both(b, a) != want {
		t.Fatalf("%s: Both is not %t", show(a, b), want)
	}
	switch {
	case match.Both(a, b):
		seen["both"]++
	case is:
		seen["one way"]++
	default:
		seen["no"]++
	}
	if is && s.Len() < len(types.Vars(a)) {
		seen["itself"]++
	}
}

// enough asks that the dice have made of each answer some.
func enough(t *testing.T, seen map[string]int, least int) {
	t.Helper()
	for _, x := range []string{"both", "one way", "no", "itself"} {
		if seen[x] < least {
			t.Errorf("only %d times: %s", seen[x], x)
		}
	}
}

func TestModel(t *testing.T) {
	seen := map[string]int{}
	for names := 1; names <= 6; names++ {
		d := dice{rand.New(rand.NewSource(int64(names))), names}
		for range 6000 {
			agree(t, seen, d.typ(3), d.typ(3))
			a := d.typ(5)
			b := d.some().Apply(a)
			agree(t, seen, a, b)
			agree(t, seen, b, a)
			agree(t, seen, a, d.changed(b))
			agree(t, seen, d.changed(a), b)
		}
	}
	enough(t, seen, 2000)
}

// A case that is made by some types has these types, of the variables that are there.
func TestCasesAreFound(t *testing.T) {
	found := 0
	d := dice{rand.New(rand.NewSource(7)), 5}
	for range 20000 {
		a, by := d.typ(5), d.some()
		b := by.Apply(a)
		s, is := answer(t, a, b)
		if !is {
			t.Fatalf("%s: no; but by %s", show(a, b), say(by, true))
		}
		for _, name := range types.Vars(a) {
			x, has := s.Get(name)
			want, wanted := by.Get(name)
			if has != wanted || !types.Same(x, want) {
				t.Fatalf("%s: %s; want %s", show(a, b), say(s, is), say(by, true))
			}
			found += s.Len()
		}
	}
	if found < 20000 {
		t.Error(found)
	}
}

// A type whose variables are renamed, each to another one, is the same but for their names; one that is brought together with another is not.
func TestRenamed(t *testing.T) {
	together := 0
	d := dice{rand.New(rand.NewSource(8)), 5}
	names := []string{"a", "b", "c", "d", "e"}
	for range 10000 {
		a := d.typ(5)
		to := slices.Clone(names)
		d.Shuffle(len(to), func(i, j int) { to[i], to[j] = to[j], to[i] })
		b := subst.Rename(a, names, to)
		if !match.Both(a, b) || !match.Both(b, a) {
			t.Fatalf("%s: not Both", show(a, b))
		}
		vars := types.Vars(a)
		if len(vars) < 2 {
			continue
		}
		together++
		b = subst.Rename(b, types.Vars(b)[:1], types.Vars(b)[1:2])
		if match.Both(a, b) || match.Both(b, a) {
			t.Fatalf("%s: Both", show(a, b))
		}
		if _, is := answer(t, a, b); !is {
			t.Fatalf("%s: no", show(a, b))
		}
		if _, is := answer(t, b, a); is {
			t.Fatalf("%s: yes", show(b, a))
		}
	}
	if together < 3000 {
		t.Error(together)
	}
}

// A case of a case is one.
func TestCasesOfCases(t *testing.T) {
	d := dice{rand.New(rand.NewSource(9)), 4}
	for range 5000 {
		a := d.typ(4)
		b := d.some().Apply(a)
		c := d.some().Apply(b)
		first, _ := answer(t, a, b)
		second, _ := answer(t, b, c)
		s, is := answer(t, a, c)
		if !is || !types.Same(second.Apply(first.Apply(a)), s.Apply(a)) {
			t.Fatalf("%s: %s", show(a, c), say(s, is))
		}
	}
}
