package types_test

import (
	"math"
	"slices"
	"testing"

	"paideia/api"
	"paideia/types"
)

// lacking are types of each kind, and of kinds that are none, with none, one, two, three arguments.
func lacking() (l []api.Type) {
	for _, kind := range []int{math.MinInt, -1, 0, 1, 2, 3, 4, 5, math.MaxInt} {
		for n := range 4 {
			args := []api.Type{tvar("b"), {}, tcon("T", tvar("c"))}[:n]
			l = append(l,
				api.Type{Kind: kind, Args: make([]api.Type, n)},
				api.Type{Kind: kind, Name: "a", Args: args})
		}
	}
	return l
}

// named says whether a type is a function of two with a name, which Fun gives none.
func named(t api.Type) bool { return t.Kind == api.TFun && len(t.Args) == 2 && t.Name != "" }

// No call panics, whatever is lacking or too much.
func TestPartsThatAreLacking(t *testing.T) {
	l := lacking()
	for _, x := range l {
		for _, y := range []api.Type{x, tfun(x, tvar("a")), tfun(tvar("a"), x), tcon("T", x, x), tall("a", x)} {
			is(t, types.Fun(y), y)
			is(t, types.Con("U", y, y), tcon("U", y, y))
			args, end := types.Parts(y)
			if !named(x) {
				is(t, types.Fun(append(args, end)...), y)
			}
			for _, name := range []string{"", "a", "b", "c", "d"} {
				if types.Has(y, name) != slices.Contains(types.Vars(y), name) {
					t.Errorf("%+v: Has and Vars are at odds in %q", y, name)
				}
			}
			all := slices.Collect(types.All(y))
			is(t, all[0], y)
			if n := types.Size(y); n < 1 || n > len(all) {
				t.Errorf("%+v: Size %d", y, n)
			}
		}
	}
	for i, x := range l {
		for j, y := range l {
			n := types.Compare(x, y)
			if n != -types.Compare(y, x) || n < -1 || n > 1 || types.Same(x, y) != (n == 0) {
				t.Errorf("%+v, %+v: %d", x, y, n)
			}
			if (n == 0) != (i == j) {
				t.Errorf("%d, %d: %d", i, j, n)
			}
		}
	}
}

// What has other than two arguments is no function: so nothing of it is lost.
func TestFunctionsThatLack(t *testing.T) {
	a := tvar("a")
	for n := range 5 {
		if n == 2 {
			continue
		}
		x := api.Type{Kind: api.TFun, Args: slices.Repeat([]api.Type{a}, n)}
		args, end := types.Parts(x)
		areTypes(t, args)
		is(t, end, x)
		args, end = types.Parts(tfun(a, tfun(x, x)))
		areTypes(t, args, a, x)
		is(t, end, x)
		if types.Size(x) != 1+n || types.Has(x, "a") != (n > 0) || len(types.Vars(x)) != min(n, 1) {
			t.Error(n)
		}
	}
	is(t, types.Fun(api.Type{}, api.Type{}), tfun(api.Type{}, api.Type{}))
	args, end := types.Parts(api.Type{})
	areTypes(t, args)
	is(t, end, api.Type{})
}

// A type of no kind is no variable, binds none, and is no function.
func TestTypesOfNoKind(t *testing.T) {
	for _, kind := range []int{math.MinInt, -1, 0, 5, math.MaxInt} {
		x := api.Type{Kind: kind, Name: "a", Args: []api.Type{tvar("a"), tcon("T", tvar("b"))}}
		areNames(t, types.Vars(x), "a", "b")
		areNames(t, types.Vars(api.Type{Kind: kind, Name: "a"}))
		if types.Has(api.Type{Kind: kind, Name: "a"}, "a") || !types.Has(x, "a") || !types.Has(x, "b") {
			t.Error(kind)
		}
		if types.Size(x) != 4 || types.Size(api.Type{Kind: kind}) != 1 {
			t.Error(kind, types.Size(x))
		}
		areTypes(t, slices.Collect(types.All(x)), x, tvar("a"), tcon("T", tvar("b")), tvar("b"))
		args, end := types.Parts(x)
		areTypes(t, args)
		is(t, end, x)
	}
	sorted := []int{math.MinInt, -1, 0, 1, 2, 3, 4, 5, math.MaxInt}
	for i, k := range sorted {
		for j, m := range sorted {
			want := min(1, max(-1, i-j))
			if got := types.Compare(api.Type{Kind: k}, api.Type{Kind: m}); got != want {
				t.Errorf("Kind %d, %d: %d", k, m, got)
			}
		}
	}
}

// A variable's size is one, whatever it has; a TAll that has nothing is one part.
func TestOtherWrongTypes(t *testing.T) {
	x := api.Type{Kind: api.TVar, Name: "a", Args: []api.Type{tvar("b"), tvar("c")}}
	if types.Size(x) != 1 || types.Size(tcon("T", x, x)) != 3 {
		t.Error(types.Size(x))
	}
	if types.Same(x, tvar("a")) || types.Compare(tvar("a"), x) != -1 {
		t.Error("a variable with arguments is the one without")
	}
	areTypes(t, slices.Collect(types.All(x)), x, tvar("b"), tvar("c"))
	none := api.Type{Kind: api.TAll, Name: "a"}
	areNames(t, types.Vars(none, tvar("a")), "a")
	if types.Has(none, "a") || types.Size(none) != 1 {
		t.Error("a TAll of nothing")
	}
	areTypes(t, slices.Collect(types.All(none)), none)
}

// nil and the empty list are the same, at each place.
func TestEmptyLists(t *testing.T) {
	empty := []api.Type{}
	for kind := range 6 {
		x, y := api.Type{Kind: kind, Name: "a"}, api.Type{Kind: kind, Name: "a", Args: empty}
		if types.Compare(x, y) != 0 || types.Compare(y, x) != 0 || !types.Same(x, y) {
			t.Error(kind)
		}
		if types.Size(x) != types.Size(y) || types.Has(x, "a") != types.Has(y, "a") {
			t.Error(kind)
		}
		areNames(t, types.Vars(y), types.Vars(x)...)
		areTypes(t, slices.Collect(types.All(y)), x)
		is(t, types.Fun(y), x)
		is(t, types.Con("T", y), tcon("T", x))
		args, end := types.Parts(y)
		areTypes(t, args)
		is(t, end, x)
	}
	areNames(t, types.Vars(empty...))
}

// The deepest types that the document speaks of, and wide ones: each call ends, and soon.
func TestDeepTypes(t *testing.T) {
	const deep = 1<<16 - 2
	a := tvar("a")
	right, left, in, bound := a, a, a, a
	for range deep {
		right, left, in, bound = tfun(a, right), tfun(left, a), tcon("T", in), tall("b", bound)
	}
	for i, x := range []struct {
		t          api.Type
		size, args int
	}{{right, 2*deep + 1, deep}, {left, 2*deep + 1, 1}, {in, deep + 1, 0}, {bound, deep + 1, 0}} {
		if got := types.Size(x.t); got != x.size {
			t.Error(i, got)
		}
		areNames(t, types.Vars(x.t), "a")
		if !types.Has(x.t, "a") || types.Has(x.t, "b") {
			t.Error(i)
		}
		args, end := types.Parts(x.t)
		if len(args) != x.args || types.Compare(types.Fun(append(args, end)...), x.t) != 0 {
			t.Error(i, len(args))
		}
		if own := types.Con("T", x.t); types.Compare(own.Args[0], x.t) != 0 || types.Compare(own, x.t) == 0 {
			t.Error(i)
		}
		for y := range types.All(x.t) {
			if !types.Same(x.t, y) {
				t.Error(i)
			}
			break
		}
	}
}

func TestWideTypes(t *testing.T) {
	const wide = 1 << 17
	var l []api.Type
	for i := range wide {
		l = append(l, tvar(string(rune('a'+i%26))+string(rune(0x1000+i/26))))
	}
	x := types.Con("T", l...)
	if types.Size(x) != wide+1 {
		t.Error(types.Size(x))
	}
	names := types.Vars(x, x)
	if len(names) != wide || names[wide-1] != l[wide-1].Name || !types.Has(x, names[wide-1]) {
		t.Error(len(names))
	}
	n := 0
	for range types.All(x) {
		n++
	}
	if n != wide+1 {
		t.Error(n)
	}
	args, end := types.Parts(types.Fun(l[:1<<15]...))
	areTypes(t, append(args, end), l[:1<<15]...)
}
