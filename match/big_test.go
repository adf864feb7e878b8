package match_test

import (
	"strconv"
	"testing"

	"paideia/api"
	"paideia/match"
	"paideia/types"
)

// Each call here ends, and soon: none takes more steps than there are parts in both types, or about as many.

func numbered(name string, n int) api.Type { return tvar(name + strconv.Itoa(n)) }

// cases asks for so many types; and for Both, or for none the other way round.
func cases(t *testing.T, a, b api.Type, most int, both bool) {
	t.Helper()
	s, is := match.Match(a, b)
	if !is || s.Len() != most || !types.Same(s.Apply(a), b) {
		t.Errorf("%t, Len %d; want %d", is, s.Len(), most)
	}
	if _, back := match.Match(b, a); back != both {
		t.Errorf("the other way round: %t", back)
	}
	if match.Both(a, b) != both || match.Both(b, a) != both {
		t.Error("Both")
	}
}

// none asks for no types, either way round.
func none(t *testing.T, a, b api.Type) {
	t.Helper()
	for range 2 {
		if s, is := match.Match(a, b); is || s.Len() != 0 || match.Both(a, b) {
			t.Errorf("%t, Len %d", is, s.Len())
		}
		a, b = b, a
	}
}

const many = 1 << 16

// wide is a constructor of many arguments.
func wide(of func(i int) api.Type) api.Type {
	args := make([]api.Type, many)
	for i := range args {
		args[i] = of(i)
	}
	return tcon("T", args...)
}

func TestWideTypes(t *testing.T) {
	row := wide(func(i int) api.Type { return numbered("v", i) })
	other := wide(func(i int) api.Type { return numbered("w", i) })
	next := wide(func(i int) api.Type { return numbered("v", (i+1)%many) })
	back := wide(func(i int) api.Type { return numbered("v", many-1-i) })
	same := wide(func(int) api.Type { return tvar("a") })
	all := wide(func(int) api.Type { return read("U -> W") })
	cases(t, row, row, 0, true)
	cases(t, row, other, many, true)
	cases(t, row, next, many, true)
	cases(t, row, back, many, true)
	cases(t, row, same, many, false)
	cases(t, row, all, many, false)
	cases(t, same, all, 1, false)
	all.Args[many-1] = read("U -> X")
	none(t, same, all)
	cases(t, row, all, many, false)
	none(t, row, tcon("T", row.Args[1:]...))
	row.Args[many-1], other.Args[many-1] = tcon("U"), tcon("X")
	none(t, row, other)
}

// deep is types of the deepest that the document speaks of.
func deep(end api.Type, beside string) (l []api.Type) {
	right, left, in := end, end, end
	for range many - 4 {
		right, left, in = tfun(tvar(beside), right), tfun(left, tvar(beside)), tcon("T", in)
	}
	return []api.Type{right, left, in}
}

func TestDeepTypes(t *testing.T) {
	as, cs, is, js := deep(tvar("a"), "b"), deep(tvar("c"), "d"), deep(tcon("I"), "b"), deep(tcon("J"), "d")
	for i, x := range as {
		cases(t, x, x, 0, true)
		cases(t, x, cs[i], len(types.Vars(x)), true)
		cases(t, x, is[i], 1, false)
		cases(t, tvar("a"), x, 1, false)
		none(t, is[i], js[i])
		none(t, x, as[(i+1)%3])
		cases(t, tcon("P", tvar("x"), tvar("x")), tcon("P", x, x), 1, false)
		none(t, tcon("P", tvar("x"), tvar("x")), tcon("P", x, is[i]))
	}
	cases(t, as[2].Args[0], as[2], 1, false)
}

// A great type for a variable that stands many times: put in each of its places it would be more than can be written.
func TestMoreThanCanBeWritten(t *testing.T) {
	great := wide(func(i int) api.Type { return numbered("w", i) })
	a := tcon("P", tvar("a"), wide(func(int) api.Type { return tvar("a") }))
	b := tcon("P", great, wide(func(int) api.Type { return tcon("U") }))
	none(t, a, b)
	c := tcon("P", great, wide(func(int) api.Type { return tcon("T", great.Args[:many-1]...) }))
	none(t, a, c)
	// one that becomes little, of which there is much to be put
	cases(t, wide(func(int) api.Type { return tvar("a") }), wide(func(int) api.Type { return tcon("L", tvar("a")) }), 1, false)
}

// Many variables, each several times, each of another type.
func TestManyVariables(t *testing.T) {
	a := wide(func(i int) api.Type { return tfun(numbered("v", i/8), numbered("v", (i*7)%many/8)) })
	of := func(i int) api.Type { return tcon("U", numbered("v", i), tcon("N"+strconv.Itoa(i))) }
	b := wide(func(i int) api.Type { return tfun(of(i/8), of((i*7)%many/8)) })
	cases(t, a, b, many/8, false)
	b.Args[many-1].Args[1] = of(0)
	none(t, a, b)
}
