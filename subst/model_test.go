package subst_test

import (
	"math/rand"
	"slices"
	"testing"

	"paideia/api"
	"paideia/subst"
)

// dice makes types and pairs; of one seed, so that each run makes the same ones.
type dice struct{ *rand.Rand }

func (d dice) name() string { return string(rune('a' + d.Intn(5))) }

func (d dice) typ(deep int) api.Type {
	switch n := d.Intn(4); {
	case deep == 0 || n == 0:
		return tvar(d.name())
	case n == 1:
		var args []api.Type
		for range d.Intn(4) {
			args = append(args, d.typ(deep-1))
		}
		return tcon(d.name(), args...)
	}
	return tfun(d.typ(deep-1), d.typ(deep-1))
}

func (d dice) pairs(most int) (l []subst.Pair) {
	for range d.Intn(most + 1) {
		l = append(l, subst.Pair{Name: d.name(), Type: d.typ(d.Intn(3))})
	}
	return l
}

func (d dice) names(most int) (l []string) {
	for range d.Intn(most + 1) {
		l = append(l, d.name())
	}
	return l
}

// modelApply looks a variable up in a list, from its beginning.
func modelApply(l []subst.Pair, t api.Type) api.Type {
	if t.Kind == api.TVar {
		if i := slices.IndexFunc(l, func(p subst.Pair) bool { return p.Name == t.Name }); i >= 0 {
			return l[i].Type
		}
		return t
	}
	var args []api.Type
	for _, x := range t.Args {
		args = append(args, modelApply(l, x))
	}
	return api.Type{Kind: t.Kind, Name: t.Name, Args: args}
}

// modelPairs are, by names, the variables of which something else comes.
func modelPairs(of func(api.Type) api.Type) (l []subst.Pair) {
	for _, name := range []string{"a", "b", "c", "d", "e"} {
		if x := of(tvar(name)); x.Kind != api.TVar || x.Name != name {
			l = append(l, subst.Pair{Name: name, Type: x})
		}
	}
	return l
}

func TestModel(t *testing.T) {
	d := dice{rand.New(rand.NewSource(5))}
	for range 4000 {
		l, m := d.pairs(7), d.pairs(7)
		s, u := subst.Of(l...), subst.Of(m...)
		byS := func(x api.Type) api.Type { return modelApply(l, x) }
		byBoth := func(x api.Type) api.Type { return modelApply(m, modelApply(l, x)) }
		both := s.Then(u)
		has(t, s, modelPairs(byS)...)
		has(t, both, modelPairs(byBoth)...)
		x := d.typ(4)
		is(t, s.Apply(x), byS(x))
		is(t, both.Apply(x), byBoth(x))
		is(t, u.Apply(s.Apply(x)), byBoth(x))
		preds := s.Preds([]api.Pred{{Class: "C", Type: x}})
		arePreds(t, preds, []api.Pred{{Class: "C", Type: byS(x)}})
		from, to := d.names(6), d.names(6)
		var renamed []subst.Pair
		for i := range min(len(from), len(to)) {
			renamed = append(renamed, subst.Pair{Name: from[i], Type: tvar(to[i])})
		}
		is(t, subst.Rename(x, from, to), modelApply(renamed, x))
		if t.Failed() {
			t.Fatalf("%+v; %+v; %+v; %v; %v", l, m, x, from, to)
		}
	}
}

// Three one behind the other are the same, whichever two are put together first; and the zero value on either side changes nothing.
func TestThenOfThree(t *testing.T) {
	d := dice{rand.New(rand.NewSource(6))}
	for range 1000 {
		s, u, v := subst.Of(d.pairs(5)...), subst.Of(d.pairs(5)...), subst.Of(d.pairs(5)...)
		has(t, s.Then(u).Then(v), told(s.Then(u.Then(v)))...)
		has(t, s.Then(subst.Subst{}), told(s)...)
		has(t, subst.Subst{}.Then(s), told(s)...)
		has(t, subst.Of(told(s)...), told(s)...)
	}
}
