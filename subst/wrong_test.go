package subst_test

import (
	"math"
	"slices"
	"strconv"
	"testing"

	"paideia/api"
	"paideia/subst"
)

// lacking are types of each kind, and of kinds that are none, with none, one, two, three arguments.
func lacking() (l []api.Type) {
	for _, kind := range []int{math.MinInt, -1, 0, 1, 2, 3, 4, 5, math.MaxInt} {
		for n := range 4 {
			args := []api.Type{tvar("b"), {}, tcon("T", tvar("c"))}[:n]
			l = append(l,
				api.Type{Kind: kind, Args: make([]api.Type, n)},
				api.Type{Kind: kind, Name: "x", Args: args})
		}
	}
	return l
}

// No call panics, whatever is lacking or too much; and where no variable has a type all stays.
func TestTypesThatLack(t *testing.T) {
	for _, x := range lacking() {
		for _, y := range []api.Type{x, tfun(x, tvar("x")), tcon("T", x, x), {Args: []api.Type{x}}} {
			is(t, subst.Subst{}.Apply(y), y)
			is(t, of("d", "T").Apply(y), y)
			is(t, subst.Rename(y, []string{"d"}, []string{"x"}), y)
			arePreds(t, subst.Subst{}.Preds([]api.Pred{{Class: "C", Type: y}, {}}), []api.Pred{{Class: "C", Type: y}, {}})
			p, q := subst.Pair{Name: "a", Type: y}, subst.Pair{Name: "b", Type: y}
			has(t, subst.Of(p, q, p), p, q)
			has(t, subst.Of(p).Then(of("d", "T")), p, pairs("d", "T")[0])
			has(t, of("b", "a").Then(subst.Of(p)), p, q)
			is(t, subst.Of(p).Apply(read("T a c")), tcon("T", y, tvar("c")))
		}
	}
}

// A type of no kind is no variable: it has no type, whatever its name, though its arguments may.
func TestTypesOfNoKind(t *testing.T) {
	s := of("a", "T")
	for _, kind := range []int{math.MinInt, -1, 0, 5, math.MaxInt} {
		x := api.Type{Kind: kind, Name: "a"}
		is(t, s.Apply(x), x)
		is(t, subst.Rename(x, []string{"a"}, []string{"b"}), x)
		has(t, subst.Of(subst.Pair{Name: "a", Type: x}), subst.Pair{Name: "a", Type: x}) // nor is it the variable itself
		is(t, s.Apply(api.Type{Kind: kind, Name: "a", Args: []api.Type{tvar("a"), x}}), api.Type{Kind: kind, Name: "a", Args: []api.Type{tcon("T"), x}})
	}
	none := subst.Pair{}
	has(t, subst.Of(none, none), none)
	is(t, subst.Of(none).Apply(tvar("")), api.Type{})
	is(t, subst.Of(none).Apply(api.Type{}), api.Type{})
}

// nil and the empty list are the same, at each place.
func TestEmptyLists(t *testing.T) {
	has(t, subst.Of(nil...))
	has(t, subst.Of([]subst.Pair{}...))
	for _, names := range [][]string{nil, {}} {
		is(t, subst.Rename(read("T a"), names, names), read("T a"))
		is(t, subst.Rename(read("T a"), []string{"a"}, names), read("T a"))
		is(t, subst.Rename(read("T a"), names, []string{"a"}), read("T a"))
	}
	empty := api.Type{Kind: api.TVar, Name: "a", Args: []api.Type{}}
	is(t, of("a", "T").Apply(empty), tcon("T"))
	is(t, subst.Rename(empty, []string{"a"}, []string{"b"}), tvar("b"))
	has(t, of("a", "b").Then(subst.Of(subst.Pair{Name: "b", Type: empty})), pairs("b", "a")...)
	is(t, subst.Subst{}.Apply(api.Type{Kind: api.TCon, Name: "T", Args: []api.Type{}}), tcon("T"))
}

// The deepest types that the document speaks of: each call ends, and soon.
func TestDeepTypes(t *testing.T) {
	const deep = 1<<15 - 2
	a := tvar("a")
	right, left, in := a, a, a
	for range deep {
		right, left, in = tfun(tvar("b"), right), tfun(left, tvar("b")), tcon("T", in)
	}
	for _, x := range []api.Type{right, left, in} {
		s := subst.Of(subst.Pair{Name: "a", Type: x}, subst.Pair{Name: "b", Type: tcon("U")})
		got := s.Apply(x)
		n := depth(got)
		if n != 2*deep+1 {
			t.Error(n)
		}
		if got, _ := s.Get("a"); depth(got) != deep+1 {
			t.Error(depth(got))
		}
		both := of("c", "T a").Then(s)
		if got, _ := both.Get("c"); depth(got) != deep+2 || both.Len() != 3 {
			t.Error(depth(got))
		}
		if got := subst.Rename(x, []string{"a"}, []string{"b"}); depth(got) != deep+1 {
			t.Error(depth(got))
		}
	}
}

func depth(t api.Type) int {
	n := 0
	for _, x := range t.Args {
		n = max(n, depth(x))
	}
	return n + 1
}

// Many variables: each call ends, and soon.
func TestManyPairs(t *testing.T) {
	const many = 1 << 16
	var l []subst.Pair
	var from, to []string
	whole, want := tcon("T"), tcon("T")
	for i := range many {
		name := "?" + strconv.Itoa(i)
		l = append(l, subst.Pair{Name: name, Type: tcon("U", tvar(name))})
		from, to = append(from, name), append(to, "v"+strconv.Itoa(i))
		whole.Args, want.Args = append(whole.Args, tvar(name)), append(want.Args, tcon("U", tvar(name)))
	}
	s := subst.Of(append(l, l...)...)
	if s.Len() != many {
		t.Fatal(s.Len())
	}
	is(t, s.Apply(whole), want)
	names := []string{}
	for name := range s.Pairs() {
		names = append(names, name)
	}
	if len(names) != many || !slices.IsSorted(names) {
		t.Error(len(names))
	}
	renamed := subst.Rename(whole, from, to)
	if len(renamed.Args) != many || renamed.Args[many-1].Name != to[many-1] {
		t.Error(len(renamed.Args))
	}
	twice := s.Then(s)
	if got, _ := twice.Get(from[7]); twice.Len() != many || depth(got) != 3 {
		t.Error(twice.Len(), depth(got))
	}
}
