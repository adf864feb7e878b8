package scheme_test

import (
	"slices"
	"strconv"
	"testing"

	"paideia/api"
	"paideia/scheme"
	"paideia/types"
)

// Each call here ends, and soon: none goes through all of its variables for each of its context.

const many = 1 << 16

func numbered(i int) api.Type { return tvar("v" + strconv.Itoa(i)) }

// wide is a constructor of many arguments.
func wide(of func(i int) api.Type) api.Type {
	args := make([]api.Type, many)
	for i := range args {
		args[i] = of(i)
	}
	return tcon("T", args...)
}

func manyPreds(class string, of func(i int) api.Type) []api.Pred {
	l := make([]api.Pred, many)
	for i := range l {
		l[i] = pred(class, of(i))
	}
	return l
}

func manyNames(of func(i int) string) []string {
	l := make([]string, many)
	for i := range l {
		l[i] = of(i)
	}
	return l
}

// areMany asks for names of which there are too many to be shown.
func areMany(t *testing.T, got, want []string) {
	t.Helper()
	if !slices.Equal(got, want) {
		t.Errorf("%d names; want %d, others", len(got), len(want))
	}
}

func TestManyVariables(t *testing.T) {
	back := func(i int) api.Type { return numbered(many - 1 - i) }
	s := scheme.Close(manyPreds("Eq", back), wide(numbered))
	areMany(t, s.Vars, manyNames(func(i int) string { return numbered(i).Name }))
	if len(scheme.Free(s)) != 0 || len(scheme.Close(s.Context, s.Type, s.Vars...).Vars) != 0 {
		t.Error("Free")
	}
	c := scheme.Canon(s)
	areMany(t, c.Vars, manyNames(scheme.Name))
	if !types.Same(c.Type, wide(func(i int) api.Type { return tvar(scheme.Name(i)) })) || len(c.Context) != many {
		t.Error("Canon")
	}
	f, next := scheme.Fresh(s, 5)
	areMany(t, f.Vars, manyNames(func(i int) string { return "?" + strconv.Itoa(i+5) }))
	if next != many+5 || !types.Same(f.Context[0].Type, tvar("?"+strconv.Itoa(many+4))) {
		t.Error(next)
	}
	if !scheme.Same(s, f) || !scheme.Same(c, f) {
		t.Error("Same")
	}
	f.Context[many/2].Class = "Ord"
	if scheme.Same(s, f) {
		t.Error("Same")
	}
}

// Names that are Free's are passed over, however many there are.
func TestManyFree(t *testing.T) {
	free := wide(func(i int) api.Type { return tvar(scheme.Name(2 * i)) })
	s := api.Scheme{Vars: manyNames(func(i int) string { return numbered(i + 1000000).Name }), Context: manyPreds("Eq", func(int) api.Type { return tvar("a") }), Type: tfun(free, wide(func(i int) api.Type { return numbered(i + 1000000) }))}
	areMany(t, scheme.Free(s), manyNames(func(i int) string { return scheme.Name(2 * i) }))
	c := scheme.Canon(s)
	areMany(t, c.Vars, manyNames(func(i int) string { return scheme.Name(2*i + 1) }))
	if len(c.Context) != 1 {
		t.Error(len(c.Context))
	}
}

func TestManyPreds(t *testing.T) {
	// 7 and many have no divisor in common: each stands somewhere, and then once more
	l := manyPreds("Eq", func(i int) api.Type { return numbered(i * 7 % many) })
	l = append(l, manyPreds("E", func(i int) api.Type { return tfun(tvar("a"), numbered(i%9)) })...)
	l = append(l, l...)
	got := scheme.SortPreds(l)
	if len(got) != many+9 {
		t.Fatal(len(got))
	}
	names := manyNames(func(i int) string { return numbered(i).Name })
	slices.Sort(names)
	for i, p := range got[9:] {
		if p.Class != "Eq" || p.Type.Name != names[i] {
			t.Fatal(i, p)
		}
	}
}

// Types of the deepest that the document speaks of.
func TestDeepTypes(t *testing.T) {
	right, left, in := tvar("x"), tvar("x"), tvar("x")
	for range many - 4 {
		right, left, in = tfun(tvar("y"), right), tfun(left, tvar("y")), tcon("T", in)
	}
	for _, deep := range []api.Type{right, left, in} {
		vars := types.Vars(deep)
		s := scheme.Close([]api.Pred{pred("Ord", deep), pred("Eq", deep), pred("Ord", deep)}, deep)
		areNames(t, s.Vars, vars...)
		areNames(t, scheme.Free(api.Scheme{Context: s.Context, Type: deep}), vars...)
		c := scheme.Canon(s)
		areNames(t, c.Vars, []string{"a", "b"}[:len(vars)]...)
		if len(c.Context) != 2 || !types.Same(c.Type, c.Context[0].Type) || types.Size(c.Type) != types.Size(deep) {
			t.Error("Canon")
		}
		f, _ := scheme.Fresh(s, 0)
		if !scheme.Same(s, f) || scheme.Same(s, scheme.Close(s.Context, deep, "x")) {
			t.Error("Same")
		}
	}
}
