package scheme_test

import (
	"math/rand"
	"slices"
	"strconv"
	"strings"
	"testing"

	"paideia/api"
	"paideia/scheme"
	"paideia/types"
)

// dice makes types and schemes; of one seed, so that each run makes the same ones.
type dice struct {
	*rand.Rand
	pool []string
}

func newDice(seed int64) dice {
	return dice{rand.New(rand.NewSource(seed)), strings.Fields("a b c d x y z a1 b1 ?0 ?1")}
}

func (d dice) name() string { return d.pool[d.Intn(len(d.pool))] }

func (d dice) names(most int) (l []string) {
	for range d.Intn(most + 1) {
		l = append(l, d.name())
	}
	return l
}

func (d dice) typ(deep int) api.Type {
	switch n := d.Intn(4); {
	case deep == 0 || n == 0:
		return tvar(d.name())
	case n == 1:
		var args []api.Type
		for range d.Intn(3) {
			args = append(args, d.typ(deep-1))
		}
		return tcon([]string{"T", "U", "a"}[d.Intn(3)], args...)
	}
	return tfun(d.typ(deep-1), d.typ(deep-1))
}

func (d dice) context(most int) (l []api.Pred) {
	for range d.Intn(most + 1) {
		l = append(l, pred([]string{"E", "Eq", "Eqs", "Ord"}[d.Intn(4)], d.typ(d.Intn(3))))
	}
	return l
}

func (d dice) scheme() api.Scheme {
	return api.Scheme{Vars: d.names(8), Context: d.context(5), Type: d.typ(d.Intn(4))}
}

// The models: each call once more, as the chapter's words say it, with nothing but lists that are gone through.

func modelName(i int) string {
	name, turn := 'a', 0
	for range i {
		if name++; name > 'z' {
			name, turn = 'a', turn+1
		}
	}
	if turn == 0 {
		return string(name)
	}
	return string(name) + strconv.Itoa(turn)
}

func modelVars(l []string, t api.Type) []string {
	if t.Kind == api.TVar && !slices.Contains(l, t.Name) {
		l = append(l, t.Name)
	}
	for _, x := range t.Args {
		l = modelVars(l, x)
	}
	return l
}

func modelAll(context []api.Pred, t api.Type) []string {
	l := modelVars(nil, t)
	for _, p := range context {
		l = modelVars(l, p.Type)
	}
	return l
}

func modelBut(l, not []string) (rest []string) {
	for _, name := range l {
		if !slices.Contains(not, name) {
			rest = append(rest, name)
		}
	}
	return rest
}

// modelSort puts one by one ahead of the first that is greater; of such as are there already none.
func modelSort(l []api.Pred) (sorted []api.Pred) {
	for _, p := range l {
		i := 0
		for i < len(sorted) && modelLess(sorted[i], p) {
			i++
		}
		if i == len(sorted) || modelLess(p, sorted[i]) {
			sorted = slices.Insert(sorted, i, p)
		}
	}
	return sorted
}

func modelLess(a, b api.Pred) bool {
	if a.Class != b.Class {
		return a.Class < b.Class
	}
	return types.Compare(a.Type, b.Type) < 0
}

func modelRename(t api.Type, from, to []string) api.Type {
	if i := slices.Index(from, t.Name); t.Kind == api.TVar && i >= 0 {
		return tvar(to[i])
	}
	var args []api.Type
	for _, x := range t.Args {
		args = append(args, modelRename(x, from, to))
	}
	return api.Type{Kind: t.Kind, Name: t.Name, Args: args}
}

func modelRenamed(s api.Scheme, from, to []string) api.Scheme {
	var context []api.Pred
	for _, p := range s.Context {
		context = append(context, pred(p.Class, modelRename(p.Type, from, to)))
	}
	return api.Scheme{Vars: to, Context: context, Type: modelRename(s.Type, from, to)}
}

func modelCanon(s api.Scheme) api.Scheme {
	all := modelAll(modelSort(s.Context), s.Type)
	free := modelBut(all, s.Vars)
	from := modelBut(all, free)
	var to []string
	for i := 0; len(to) < len(from); i++ {
		if name := modelName(i); !slices.Contains(free, name) {
			to = append(to, name)
		}
	}
	s = modelRenamed(s, from, to)
	s.Context = modelSort(s.Context)
	return s
}

func modelFresh(s api.Scheme, from int) (api.Scheme, int) {
	var to []string
	for range s.Vars {
		to = append(to, "?"+strconv.Itoa(from))
		from++
	}
	return modelRenamed(s, s.Vars, to), from
}

// equal says whether two schemes are the same in each part: a text would not tell a variable from a constructor of its name.
func equal(a, b api.Scheme) bool {
	return slices.Equal(a.Vars, b.Vars) && slices.EqualFunc(a.Context, b.Context, samePred) && types.Same(a.Type, b.Type)
}

// equals asks for a scheme, each part of it.
func equals(t *testing.T, got, want api.Scheme) {
	t.Helper()
	if !equal(got, want) {
		t.Errorf("%s; want %s", say(got), say(want))
	}
}

func TestNameModel(t *testing.T) {
	for i := range 3000 {
		if got, want := scheme.Name(i), modelName(i); got != want {
			t.Fatalf("%d: %s; want %s", i, got, want)
		}
	}
}

func TestModel(t *testing.T) {
	d := newDice(8)
	for i := range 20000 {
		s, not := d.scheme(), d.names(6)
		equals(t, scheme.Canon(s), modelCanon(s))
		areNames(t, scheme.Free(s), modelBut(modelAll(s.Context, s.Type), s.Vars)...)
		closed := api.Scheme{Vars: modelBut(modelAll(s.Context, s.Type), not), Context: s.Context, Type: s.Type}
		equals(t, scheme.Close(s.Context, s.Type, not...), closed)
		fresh, next := scheme.Fresh(s, i)
		want, last := modelFresh(s, i)
		if equals(t, fresh, want); next != last {
			t.Errorf("%d; want %d", next, last)
		}
		equals(t, api.Scheme{Context: scheme.SortPreds(s.Context)}, api.Scheme{Context: modelSort(s.Context)})
		if t.Failed() {
			t.Fatalf("%s; but %q", say(s), not)
		}
	}
}

// What is free stays so; what is bound stays as many; and where all of it stands in the type, Canon once more changes nothing.
func TestCanonStays(t *testing.T) {
	d := newDice(9)
	for range 10000 {
		s := d.scheme()
		c := scheme.Canon(s)
		free := scheme.Free(s)
		slices.Sort(free)
		after := scheme.Free(c)
		slices.Sort(after)
		areNames(t, after, free...)
		if want := len(modelAll(s.Context, s.Type)) - len(free); len(c.Vars) != want {
			t.Errorf("%d Vars; want %d", len(c.Vars), want)
		}
		for _, name := range free {
			if slices.Contains(c.Vars, name) {
				t.Errorf("%s is bound", name)
			}
		}
		if len(modelBut(c.Vars, modelVars(nil, c.Type))) == 0 {
			equals(t, scheme.Canon(c), c)
		}
		if t.Failed() {
			t.Fatalf("%s: %s", say(s), say(c))
		}
	}
}

// Same is that Canon says the same of both.
func TestSameModel(t *testing.T) {
	d := newDice(10)
	d.pool = []string{"a", "b", "c"}
	seen := map[bool]int{}
	for range 30000 {
		a := api.Scheme{Vars: d.names(4), Context: d.context(1), Type: d.typ(1)}
		b := api.Scheme{Vars: d.names(4), Context: d.context(1), Type: d.typ(1)}
		if d.Intn(2) == 0 {
			b = api.Scheme{Vars: d.names(4), Context: a.Context, Type: a.Type}
		}
		want := equal(modelCanon(a), modelCanon(b))
		if scheme.Same(a, b) != want || scheme.Same(b, a) != want {
			t.Fatalf("%s, %s: not %t", say(a), say(b), want)
		}
		seen[want]++
	}
	if seen[true] < 5000 || seen[false] < 5000 {
		t.Error(seen)
	}
}

// What is but renamed, with its context in another order and twice, with Vars that stand nowhere, is the same. (Of such as stand in the context alone it may not be: these are found by their old names.)
func TestRenamedIsSame(t *testing.T) {
	d := newDice(11)
	for range 10000 {
		s := d.scheme()
		found := modelVars(nil, s.Type)
		s.Context = slices.DeleteFunc(s.Context, func(p api.Pred) bool { return len(modelBut(modelVars(nil, p.Type), found)) > 0 })
		var to []string
		for i := range s.Vars {
			to = append(to, "n"+strconv.Itoa(i))
		}
		other := modelRenamed(s, s.Vars, to)
		other.Vars = append(other.Vars, "nowhere", "n0")
		other.Context = append(other.Context, other.Context...)
		d.Shuffle(len(other.Vars), func(i, j int) { other.Vars[i], other.Vars[j] = other.Vars[j], other.Vars[i] })
		d.Shuffle(len(other.Context), func(i, j int) { other.Context[i], other.Context[j] = other.Context[j], other.Context[i] })
		fresh, _ := scheme.Fresh(s, 100)
		for _, x := range []api.Scheme{other, fresh, scheme.Canon(s)} {
			if !scheme.Same(s, x) || !scheme.Same(x, s) {
				t.Fatalf("%s, %s: not the same", say(s), say(x))
			}
		}
	}
}
