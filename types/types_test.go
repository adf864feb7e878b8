package types_test

import (
	"reflect"
	"slices"
	"strings"
	"testing"

	"paideia/api"
	"paideia/parser"
	"paideia/printer"
	"paideia/types"
)

// Types as the document draws them, made without the package that is tested.

func tvar(name string) api.Type { return api.Type{Kind: api.TVar, Name: name} }

func tcon(name string, args ...api.Type) api.Type {
	return api.Type{Kind: api.TCon, Name: name, Args: args}
}

func tfun(from, to api.Type) api.Type {
	return api.Type{Kind: api.TFun, Args: []api.Type{from, to}}
}

func tall(name string, of api.Type) api.Type {
	return api.Type{Kind: api.TAll, Name: name, Args: []api.Type{of}}
}

// read is a type from its text.
func read(text string) api.Type {
	t, err := parser.Type([]byte(text))
	if err != nil {
		panic(text + ": " + err.Error())
	}
	return t
}

// plain is a type with nil for each empty list: they are the same.
func plain(t api.Type) api.Type {
	var args []api.Type
	for _, x := range t.Args {
		args = append(args, plain(x))
	}
	t.Args = args
	return t
}

// is holds a type against the one that is asked for, part by part.
func is(t *testing.T, got, want api.Type) {
	t.Helper()
	if !reflect.DeepEqual(plain(got), plain(want)) {
		t.Errorf("%+v (%s); want %+v (%s)", got, printer.Type(got), want, printer.Type(want))
	}
}

func areTypes(t *testing.T, got []api.Type, want ...api.Type) {
	t.Helper()
	if len(got) != len(want) {
		t.Fatalf("%d types: %+v; want %d: %+v", len(got), got, len(want), want)
	}
	for i := range got {
		is(t, got[i], want[i])
	}
}

func areNames(t *testing.T, got []string, want ...string) {
	t.Helper()
	if !slices.Equal(got, want) {
		t.Errorf("%q; want %q", got, want)
	}
}

func TestVar(t *testing.T) {
	for _, name := range []string{"a", "x'", "_y1", "?7", "", "T", "\xff"} {
		is(t, types.Var(name), tvar(name))
	}
}

func TestCon(t *testing.T) {
	is(t, types.Con("T"), tcon("T"))
	is(t, types.Con("T", nil...), tcon("T"))
	is(t, types.Con("T", []api.Type{}...), tcon("T"))
	is(t, types.Con("List", tvar("a")), read("List a"))
	is(t, types.Con("T", tvar("b"), tvar("a"), tvar("b")), read("T b a b"))
	is(t, types.Con("T", read("U (V a) b"), read("a -> b"), tall("c", tvar("c"))), tcon("T", read("U (V a) b"), read("a -> b"), tall("c", tvar("c"))))
	is(t, types.Con(""), api.Type{Kind: api.TCon})
	is(t, types.Con("a", tvar("T")), tcon("a", tvar("T")))
}

func TestFun(t *testing.T) {
	a, b, c := tvar("a"), tvar("b"), tvar("c")
	is(t, types.Fun(), tcon("Unit"))
	is(t, types.Fun(nil...), tcon("Unit"))
	is(t, types.Fun([]api.Type{}...), tcon("Unit"))
	is(t, types.Fun(a), a)
	is(t, types.Fun(read("T a b")), read("T a b"))
	is(t, types.Fun(read("a -> b")), read("a -> b"))
	is(t, types.Fun(a, b), tfun(a, b))
	is(t, types.Fun(a, b, c), tfun(a, tfun(b, c)))
	is(t, types.Fun(a, b, c, a), read("a -> b -> c -> a"))
	is(t, types.Fun(tfun(a, b), c), read("(a -> b) -> c"))
	is(t, types.Fun(a, tfun(b, c)), read("a -> b -> c"))
	is(t, types.Fun(a, tfun(a, b), tfun(b, c)), read("a -> (a -> b) -> b -> c"))
	is(t, types.Fun(tall("a", a), tall("b", b)), tfun(tall("a", a), tall("b", b)))
	is(t, types.Fun(read("T (a -> b)"), read("T (b -> c)")), read("T (a -> b) -> T (b -> c)"))
}

func TestParts(t *testing.T) {
	for _, x := range []struct {
		text, end string
		args      []string
	}{
		{"a", "a", nil},
		{"T", "T", nil},
		{"T (a -> b) c", "T (a -> b) c", nil},
		{"a -> b", "b", []string{"a"}},
		{"a -> b -> c", "c", []string{"a", "b"}},
		{"a -> (b -> c)", "c", []string{"a", "b"}},
		{"(a -> b) -> c", "c", []string{"a -> b"}},
		{"a -> (a -> b -> c) -> T (a -> b)", "T (a -> b)", []string{"a", "a -> b -> c"}},
		{"T a -> T a -> T a -> Bool", "Bool", []string{"T a", "T a", "T a"}},
	} {
		var want []api.Type
		for _, text := range x.args {
			want = append(want, read(text))
		}
		args, end := types.Parts(read(x.text))
		areTypes(t, args, want...)
		is(t, end, read(x.end))
	}
	all := tall("a", read("a -> a"))
	args, end := types.Parts(all)
	areTypes(t, args)
	is(t, end, all)
	args, end = types.Parts(tfun(all, all))
	areTypes(t, args, all)
	is(t, end, all)
}

// Parts is Fun's way back: and Fun is that of Parts.
func TestPartsOfFun(t *testing.T) {
	l := []api.Type{tvar("a"), read("a -> b"), read("T (a -> b)"), tall("c", read("c -> c")), tcon("U")}
	for n := 1; n <= len(l); n++ {
		args, end := types.Parts(types.Fun(l[:n]...))
		if n == 2 { // a function as the last one is no end
			areTypes(t, args, tvar("a"), tvar("a"))
			is(t, end, tvar("b"))
			continue
		}
		areTypes(t, args, l[:n-1]...)
		is(t, end, l[n-1])
	}
	args, end := types.Parts(types.Fun())
	areTypes(t, args)
	is(t, end, tcon("Unit"))
	for _, text := range []string{"a", "T a", "a -> b", "(a -> b) -> c -> d", "a -> b -> c -> T (a -> b)"} {
		args, end := types.Parts(read(text))
		is(t, types.Fun(append(args, end)...), read(text))
	}
}

func TestVars(t *testing.T) {
	areNames(t, types.Vars())
	areNames(t, types.Vars(nil...))
	areNames(t, types.Vars(read("a -> a")), "a")
	areNames(t, types.Vars(read("T")))
	areNames(t, types.Vars(read("T U (V -> W)")))
	areNames(t, types.Vars(tcon("a")))
	areNames(t, types.Vars(tcon("a", tvar("b"))), "b")
	areNames(t, types.Vars(tvar("")), "")
	areNames(t, types.Vars(read("T b (U c a) b (a -> d)")), "b", "c", "a", "d")
	areNames(t, types.Vars(read("c -> b -> a -> b")), "c", "b", "a")
	areNames(t, types.Vars(read("b -> c"), read("T"), read("T c a b"), read("d")), "b", "c", "a", "d")
	areNames(t, types.Vars(tvar("a"), tvar("a"), tvar("a")), "a")
}

func TestVarsOfAll(t *testing.T) {
	a, b := tvar("a"), tvar("b")
	areNames(t, types.Vars(tall("a", a)))
	areNames(t, types.Vars(tall("a", b)), "b")
	areNames(t, types.Vars(tall("a", tfun(a, tfun(b, a)))), "b")
	areNames(t, types.Vars(tall("a", tall("b", tfun(a, b)))))
	areNames(t, types.Vars(tall("a", tall("a", a))))
	areNames(t, types.Vars(tall("a", tfun(tall("a", a), a))))
	areNames(t, types.Vars(tfun(tall("a", a), a)), "a")
	areNames(t, types.Vars(tfun(tall("a", tfun(a, b)), a)), "b", "a")
	areNames(t, types.Vars(tfun(a, tfun(tall("a", a), tfun(a, b)))), "a", "b")
	areNames(t, types.Vars(tfun(tall("a", tall("a", a)), a)), "a")
	areNames(t, types.Vars(tall("a", a), tall("b", a), b), "a", "b")
	areNames(t, types.Vars(tall("b", a), tall("a", tfun(b, a))), "a", "b")
	areNames(t, types.Vars(tall("c", tcon("c", a, tcon("a", b)))), "a", "b")
}

func TestHas(t *testing.T) {
	a, b := tvar("a"), tvar("b")
	for i, x := range []struct {
		t    api.Type
		name string
		want bool
	}{
		{a, "a", true}, {a, "b", false}, {a, "", false}, {tvar(""), "", true}, {a, "aa", false}, {tvar("aa"), "a", false},
		{tcon("a"), "a", false}, {tcon("a", b), "a", false}, {tcon("a", b), "b", true},
		{read("T U (V c a) b"), "a", true}, {read("T U (V c a) b"), "b", true}, {read("T U (V c a) b"), "c", true}, {read("T U (V c a) b"), "T", false}, {read("T U (V c a) b"), "d", false},
		{read("a -> b -> c"), "a", true}, {read("a -> b -> c"), "b", true}, {read("a -> b -> c"), "c", true}, {read("a -> a"), "a", true}, {read("a -> a"), "b", false},
		{tall("a", a), "a", false}, {tall("a", b), "a", false}, {tall("a", b), "b", true},
		{tall("a", tall("b", tfun(a, b))), "a", false}, {tall("a", tall("b", tfun(a, b))), "b", false},
		{tall("a", tfun(tall("a", a), a)), "a", false},
		{tfun(tall("a", a), a), "a", true}, {tfun(a, tall("a", a)), "a", true}, {tfun(tall("a", a), tall("a", a)), "a", false}, {tfun(tall("a", a), tall("b", a)), "a", true},
	} {
		if types.Has(x.t, x.name) != x.want {
			t.Error(i, x.name)
		}
	}
}

func TestSize(t *testing.T) {
	for _, x := range []struct {
		t    api.Type
		want int
	}{
		{tvar("a"), 1}, {tcon("T"), 1}, {tcon("Long'", []api.Type{}...), 1},
		{read("T a"), 2}, {read("T a a"), 3}, {read("T U U"), 3}, {read("T (U a) b"), 4}, {read("T (T (T a))"), 4},
		{read("a -> b"), 3}, {read("a -> b -> c"), 5}, {read("(a -> b) -> c"), 5}, {read("T a -> U"), 4},
		{tall("a", tvar("a")), 2}, {tall("a", tall("b", read("a -> b"))), 5},
	} {
		if got := types.Size(x.t); got != x.want {
			t.Errorf("%s: %d; want %d", printer.Type(x.t), got, x.want)
		}
	}
}

// inOrder is a list of types in the order that Compare is asked for.
func inOrder() []api.Type {
	a, b := tvar("a"), tvar("b")
	return []api.Type{
		{},
		tvar(""), tvar("A"), a, tvar("a'"), tvar("aa"), b, tvar("\x80"),
		tcon(""), tcon("", a), tcon("A"), tcon("A", a), tcon("A", b), tcon("A", tcon("A")), tcon("A", tcon("B")), tcon("A", tfun(a, a)), tcon("A", tall("a", a)),
		tcon("A", a, a), tcon("A", a, b), tcon("A", b, a), tcon("A", tcon("A"), a), tcon("A", a, a, a), tcon("AA"), tcon("B"), tcon("B", a), tcon("a"),
		tfun(a, a), tfun(a, b), tfun(a, tcon("T")), tfun(a, tfun(a, a)), tfun(b, a), tfun(tcon("A"), a), tfun(tfun(a, a), a),
		tall("a", a), tall("a", b), tall("b", a), tall("b", b),
	}
}

func TestCompare(t *testing.T) {
	l := inOrder()
	for i, x := range l {
		for j, y := range l {
			want := 0
			switch {
			case i < j:
				want = -1
			case i > j:
				want = 1
			}
			if got := types.Compare(x, y); got != want {
				t.Errorf("%d, %d: %d; want %d", i, j, got, want)
			}
			if got := types.Same(x, y); got != (i == j) {
				t.Errorf("%d, %d: Same: %t", i, j, got)
			}
		}
	}
	slices.Reverse(l)
	slices.SortFunc(l, types.Compare)
	areTypes(t, l, inOrder()...)
}

// What comes ahead tells, whatever comes behind it.
func TestCompareFirstTells(t *testing.T) {
	for i, x := range [][2]api.Type{
		{api.Type{Kind: api.TVar, Name: "z"}, tcon("a")},
		{tcon("z", tvar("z"), tvar("z")), tfun(tvar("a"), tvar("a"))},
		{tfun(tfun(tvar("z"), tvar("z")), tvar("z")), tall("a", tvar("a"))},
		{tcon("A", tvar("z"), tvar("z")), tcon("B", tvar("a"))},
		{tcon("A", tvar("z")), tcon("A", tvar("a"), tvar("a"))},
		{tcon("A", tvar("a"), tvar("z")), tcon("A", tvar("b"), tvar("a"))},
		{tcon("A", tvar("z"), tvar("z")), tcon("A", tcon("A"), tvar("a"))},
		{tall("a", tvar("z")), tall("b", tvar("a"))},
		{tcon("T", tcon("A", tvar("z")), tvar("b")), tcon("T", tcon("B", tvar("a")), tvar("a"))},
		{tcon("\x7f"), tcon("\x80")}, {tcon("\xc3\xa9"), tcon("\xff")}, {tcon("Z"), tcon("a")}, {tcon(strings.Repeat("a", 40)), tcon(strings.Repeat("a", 41))},
	} {
		if types.Compare(x[0], x[1]) != -1 || types.Compare(x[1], x[0]) != 1 || types.Same(x[0], x[1]) || types.Same(x[1], x[0]) {
			t.Error(i)
		}
	}
}

// A TAll's name is a name like others: types that differ in it alone are not the same.
func TestSame(t *testing.T) {
	for i, x := range []struct {
		a, b api.Type
		want bool
	}{
		{read("T a (b -> U)"), read("T a (b -> U)"), true},
		{read("T a (b -> U)"), read("T a (b -> V)"), false},
		{read("a -> b -> c"), read("(a -> b) -> c"), false},
		{tcon("T"), api.Type{Kind: api.TCon, Name: "T", Args: []api.Type{}}, true},
		{tvar("T"), tcon("T"), false},
		{tall("a", tvar("a")), tall("a", tvar("a")), true},
		{tall("a", tvar("a")), tall("b", tvar("b")), false},
		{tcon("T", tvar("a")), tcon("T", tvar("a"), tvar("a")), false},
		{api.Type{}, api.Type{}, true},
		{api.Type{Kind: -1}, api.Type{}, false},
	} {
		if types.Same(x.a, x.b) != x.want || types.Same(x.b, x.a) != x.want {
			t.Error(i)
		}
	}
}
