package subst_test

import (
	"reflect"
	"slices"
	"testing"

	"paideia/api"
	"paideia/parser"
	"paideia/printer"
	"paideia/subst"
)

// Types as the document draws them, made without the packages that are tested.

func tvar(name string) api.Type { return api.Type{Kind: api.TVar, Name: name} }

func tcon(name string, args ...api.Type) api.Type {
	return api.Type{Kind: api.TCon, Name: name, Args: args}
}

func tfun(from, to api.Type) api.Type {
	return api.Type{Kind: api.TFun, Args: []api.Type{from, to}}
}

// read is a type from its text.
func read(text string) api.Type {
	t, err := parser.Type([]byte(text))
	if err != nil {
		panic(text + ": " + err.Error())
	}
	return t
}

// pairs are the pairs of names and types' texts, by turns.
func pairs(texts ...string) []subst.Pair {
	var l []subst.Pair
	for i := 0; i < len(texts); i += 2 {
		l = append(l, subst.Pair{Name: texts[i], Type: read(texts[i+1])})
	}
	return l
}

// of is a Subst of names and types' texts, by turns.
func of(texts ...string) subst.Subst { return subst.Of(pairs(texts...)...) }

// plain is a type with nil for each empty list: they are the same.
func plain(t api.Type) api.Type {
	var args []api.Type
	for _, x := range t.Args {
		args = append(args, plain(x))
	}
	t.Args = args
	return t
}

// is holds a type against the one that is asked for, part by part.
func is(t *testing.T, got, want api.Type) {
	t.Helper()
	if !reflect.DeepEqual(plain(got), plain(want)) {
		t.Errorf("%+v (%s); want %+v (%s)", got, printer.Type(got), want, printer.Type(want))
	}
}

// told are the pairs that a Subst tells.
func told(s subst.Subst) []subst.Pair {
	var l []subst.Pair
	for name, x := range s.Pairs() {
		l = append(l, subst.Pair{Name: name, Type: x})
	}
	return l
}

// has holds all that a Subst tells of its pairs against those that are asked for, in their order.
func has(t *testing.T, s subst.Subst, want ...subst.Pair) {
	t.Helper()
	got := told(s)
	if len(got) != len(want) || s.Len() != len(want) {
		t.Fatalf("%d pairs, Len %d: %+v; want %d: %+v", len(got), s.Len(), got, len(want), want)
	}
	for i, p := range want {
		if got[i].Name != p.Name {
			t.Errorf("pair %d: %q; want %q", i, got[i].Name, p.Name)
		}
		is(t, got[i].Type, p.Type)
		x, found := s.Get(p.Name)
		if !found {
			t.Errorf("Get %q: none", p.Name)
		}
		is(t, x, p.Type)
	}
}

// hasNone asks for types that are not there.
func hasNone(t *testing.T, s subst.Subst, names ...string) {
	t.Helper()
	for _, name := range names {
		if x, found := s.Get(name); found || !reflect.DeepEqual(x, api.Type{}) {
			t.Errorf("Get %q: %+v, %t", name, x, found)
		}
	}
}

func TestZeroValue(t *testing.T) {
	var s subst.Subst
	has(t, s)
	hasNone(t, s, "", "a")
	for _, text := range []string{"a", "T", "T a (U b)", "a -> b -> a"} {
		is(t, s.Apply(read(text)), read(text))
	}
	has(t, s.Then(s))
	has(t, s.Then(of("a", "T b")), pairs("a", "T b")...)
	has(t, of("a", "T b").Then(s), pairs("a", "T b")...)
	has(t, s)
}

func TestOf(t *testing.T) {
	has(t, subst.Of())
	has(t, of("a", "T"), pairs("a", "T")...)
	has(t, of("a", "b"), pairs("a", "b")...)
	has(t, of("a", "T a"), pairs("a", "T a")...)
	has(t, of("a", "a -> a"), pairs("a", "a -> a")...)
	has(t, of("b", "T c", "c", "b", "a", "U -> c"), pairs("a", "U -> c", "b", "T c", "c", "b")...)
	has(t, of("a", "b", "b", "a"), pairs("a", "b", "b", "a")...)
	a := subst.Pair{Name: "a", Type: tcon("a")} // a constructor of the variable's name is another type
	has(t, subst.Of(a), a)
	hasNone(t, of("b", "T c"), "", "a", "c", "T", "bb", "b'")
}

// The first of a name counts, wherever the others stand.
func TestOfTwice(t *testing.T) {
	has(t, of("a", "T", "a", "U"), pairs("a", "T")...)
	has(t, of("a", "T", "a", "T"), pairs("a", "T")...)
	has(t, of("a", "U", "b", "V", "a", "T", "b", "W", "a", "b"), pairs("a", "U", "b", "V")...)
	has(t, of("c", "C", "b", "B", "a", "A", "c", "X", "b", "X", "a", "X"), pairs("a", "A", "b", "B", "c", "C")...)
	var l []subst.Pair
	for i := range 200 { // more than a sort takes one by one
		l = append(l, subst.Pair{Name: string(rune('a' + i%4)), Type: tcon("T", tvar(string(rune(0x1000+i))))})
	}
	has(t, subst.Of(l...), l[:4]...)
}

// A variable that is given itself has none, and what is given it behind that does not count.
func TestOfItself(t *testing.T) {
	has(t, of("a", "a"))
	has(t, of("a", "a", "a", "T"))
	has(t, of("a", "T", "a", "a"), pairs("a", "T")...)
	has(t, of("b", "b", "a", "b", "b", "T", "c", "c"), pairs("a", "b")...)
	hasNone(t, of("a", "a", "a", "T"), "a")
	is(t, of("a", "a", "a", "T").Apply(read("U a")), read("U a"))
	has(t, subst.Of(subst.Pair{Name: "a", Type: api.Type{Kind: api.TVar, Name: "a", Args: []api.Type{}}}))
}

func TestGet(t *testing.T) {
	s := of("a", "T b", "b", "a", "c", "c")
	x, found := s.Get("a")
	is(t, x, read("T b"))
	if !found {
		t.Error("a")
	}
	x, found = s.Get("b") // as it is given, not looked at again
	is(t, x, tvar("a"))
	if !found {
		t.Error("b")
	}
	hasNone(t, s, "c", "d", "", "T")
}

func TestApply(t *testing.T) {
	s := of("a", "T b", "b", "c -> a", "d", "U", "e", "a")
	for text, want := range map[string]string{
		"a":                   "T b",
		"b":                   "c -> a",
		"c":                   "c",
		"d":                   "U",
		"T":                   "T",
		"T U V":               "T U V",
		"c -> f":              "c -> f",
		"a -> a":              "T b -> T b",
		"b -> b":              "(c -> a) -> c -> a",
		"T a a":               "T (T b) (T b)",
		"T (U (V a) b) c e":   "T (U (V (T b)) (c -> a)) c a",
		"(a -> c) -> b -> d":  "(T b -> c) -> (c -> a) -> U",
		"T (a -> (d -> V e))": "T (T b -> U -> V a)",
	} {
		is(t, s.Apply(read(text)), read(want))
	}
}

// What is put in a variable's place is not looked at again: so variables change places, and one may stand in its own type.
func TestApplyAtOnce(t *testing.T) {
	x := read("T a b (a -> b)")
	is(t, of("a", "b", "b", "a").Apply(x), read("T b a (b -> a)"))
	is(t, of("a", "T a").Apply(read("a -> a")), read("T a -> T a"))
	is(t, of("a", "b", "b", "c", "c", "a").Apply(read("a -> b -> c")), read("b -> c -> a"))
	is(t, of("a", "a -> b", "b", "T a b").Apply(read("U a b")), read("U (a -> b) (T a b)"))
}

// Only a variable is a variable: a constructor of its name stays.
func TestApplyLeavesConstructors(t *testing.T) {
	s := of("a", "T")
	is(t, s.Apply(tcon("a")), tcon("a"))
	is(t, s.Apply(tcon("a", tvar("a"), tvar("A"), tvar("aa"))), tcon("a", tcon("T"), tvar("A"), tvar("aa")))
	fun := api.Type{Kind: api.TFun, Name: "a", Args: []api.Type{tvar("a"), tvar("b")}}
	want := api.Type{Kind: api.TFun, Name: "a", Args: []api.Type{tcon("T"), tvar("b")}}
	is(t, s.Apply(fun), want)
}

func TestPreds(t *testing.T) {
	s := of("a", "T b", "b", "a")
	if l := s.Preds(nil); len(l) != 0 {
		t.Error(l)
	}
	if l := s.Preds([]api.Pred{}); len(l) != 0 {
		t.Error(l)
	}
	given := []api.Pred{{Class: "Ord", Type: tvar("b")}, {Class: "a", Type: read("c")}, {Class: "Eq", Type: read("U a b")}, {Class: "Eq", Type: read("U a b")}, {Type: read("a -> c")}}
	want := []api.Pred{{Class: "Ord", Type: tvar("a")}, {Class: "a", Type: read("c")}, {Class: "Eq", Type: read("U (T b) a")}, {Class: "Eq", Type: read("U (T b) a")}, {Type: read("T b -> c")}}
	arePreds(t, s.Preds(given), want)
	arePreds(t, subst.Subst{}.Preds(given), given)
}

func arePreds(t *testing.T, got, want []api.Pred) {
	t.Helper()
	if len(got) != len(want) {
		t.Fatalf("%+v; want %+v", got, want)
	}
	for i, p := range want {
		if got[i].Class != p.Class {
			t.Errorf("%d: class %q; want %q", i, got[i].Class, p.Class)
		}
		is(t, got[i].Type, p.Type)
	}
}

func TestThen(t *testing.T) {
	for i, x := range []struct{ s, u, want []string }{
		{nil, nil, nil},
		{nil, []string{"a", "T a"}, []string{"a", "T a"}},
		{[]string{"a", "T a"}, nil, []string{"a", "T a"}},
		{[]string{"a", "T"}, []string{"b", "U"}, []string{"a", "T", "b", "U"}},
		{[]string{"b", "T"}, []string{"a", "U"}, []string{"a", "U", "b", "T"}},
		{[]string{"a", "b"}, []string{"b", "c"}, []string{"a", "c", "b", "c"}},
		{[]string{"b", "c"}, []string{"a", "b"}, []string{"a", "b", "b", "c"}}, // u's types are not looked at by s
		{[]string{"a", "T b c"}, []string{"b", "U a", "c", "b -> a"}, []string{"a", "T (U a) (b -> a)", "b", "U a", "c", "b -> a"}},
		{[]string{"a", "T a"}, []string{"a", "U a"}, []string{"a", "T (U a)"}},
		{[]string{"c", "V"}, []string{"d", "c", "b", "c", "c", "W"}, []string{"b", "c", "c", "V", "d", "c"}},
	} {
		has(t, of(x.s...).Then(of(x.u...)), pairs(x.want...)...)
		if t.Failed() {
			t.Fatal(i)
		}
	}
}

// Where both have a type for a name, that of the first counts, with u's types in it.
func TestThenBoth(t *testing.T) {
	has(t, of("a", "T").Then(of("a", "U")), pairs("a", "T")...)
	has(t, of("a", "b").Then(of("a", "c")), pairs("a", "b")...)
	has(t, of("a", "b", "b", "T a").Then(of("a", "U", "b", "V")), pairs("a", "V", "b", "T U")...)
	has(t, of("a", "b", "b", "a").Then(of("a", "b", "b", "a")))
	has(t, of("a", "b", "b", "c", "c", "a").Then(of("a", "b", "b", "c", "c", "a")), pairs("a", "c", "b", "a", "c", "b")...)
}

// Where what comes of a variable is itself again it has none, whether u has a type for it or not.
func TestThenItself(t *testing.T) {
	s := of("a", "b").Then(of("b", "a"))
	has(t, s, pairs("b", "a")...)
	hasNone(t, s, "a")
	is(t, s.Apply(read("a -> b")), read("a -> a"))
	s = of("a", "b").Then(of("b", "a", "a", "T"))
	has(t, s, pairs("b", "a")...)
	is(t, s.Apply(read("a -> b")), read("a -> a"))
	s = of("a", "b", "c", "T a").Then(of("b", "a"))
	has(t, s, pairs("b", "a", "c", "T a")...)
	has(t, of("a", "b").Then(of("b", "T a")), pairs("a", "T a", "b", "T a")...)
}

// Then changes neither of the two.
func TestThenLeavesBoth(t *testing.T) {
	s, u := of("a", "T b", "d", "b"), of("a", "V", "b", "U c", "c", "d")
	s.Then(u)
	u.Then(s)
	s.Then(s)
	has(t, s, pairs("a", "T b", "d", "b")...)
	has(t, u, pairs("a", "V", "b", "U c", "c", "d")...)
}

// Names stand byte by byte.
func TestPairsOrder(t *testing.T) {
	names := []string{"", "?10", "?2", "B", "_", "a", "a'", "a1", "a10", "a2", "aa", "b", "\x7f", "\x80", "\xc3\xa9", "\xff"}
	var want []subst.Pair
	for _, name := range names {
		want = append(want, subst.Pair{Name: name, Type: tcon("T", tvar(name))})
	}
	has(t, subst.Of(want...), want...)
	back := slices.Clone(want)
	slices.Reverse(back)
	has(t, subst.Of(back...), want...)
	var odd, even subst.Subst
	for i, p := range back {
		if i%2 == 0 {
			even = even.Then(subst.Of(subst.Pair{Name: p.Name, Type: tcon("U")}))
		} else {
			odd = odd.Then(subst.Of(subst.Pair{Name: p.Name, Type: tcon("U")}))
		}
	}
	for i := range want {
		want[i].Type = tcon("U")
	}
	has(t, odd.Then(even), want...)
}

func TestPairsStopped(t *testing.T) {
	s, want := of("c", "T", "a", "b", "b", "U a"), pairs("a", "b", "b", "U a", "c", "T")
	for most := 1; most <= len(want); most++ {
		n := 0
		for name, x := range s.Pairs() {
			if name != want[n].Name {
				t.Error(name)
			}
			is(t, x, want[n].Type)
			n++
			if n == most {
				break
			}
		}
		if n != most {
			t.Error(n)
		}
		calls := 0
		s.Pairs()(func(string, api.Type) bool {
			calls++
			return calls < most
		})
		if calls != most {
			t.Errorf("%d calls behind the stop", calls-most)
		}
	}
	subst.Subst{}.Pairs()(func(string, api.Type) bool {
		t.Error("the zero value tells something")
		return false
	})
}

func TestPairsTwice(t *testing.T) {
	all := of("c", "T", "a", "b", "b", "U a").Pairs()
	for range all {
		break
	}
	for range 2 {
		outer := ""
		for name, x := range all {
			outer += name + "=" + printer.Type(x) + ";"
			inner := ""
			for name, x := range all { // one range within the other
				inner += name + "=" + printer.Type(x) + ";"
			}
			if inner != "a=b;b=U a;c=T;" {
				t.Error(inner)
			}
		}
		if outer != "a=b;b=U a;c=T;" {
			t.Error(outer)
		}
	}
}

func TestLen(t *testing.T) {
	for i, x := range []struct {
		s    subst.Subst
		want int
	}{
		{subst.Subst{}, 0}, {subst.Of(), 0}, {of("a", "a"), 0}, {of("a", "b"), 1}, {of("a", "b", "a", "c"), 1}, {of("a", "b", "b", "b", "c", "T"), 2},
		{of("a", "b").Then(of("b", "a")), 1}, {of("a", "b").Then(of("b", "c")), 2}, {of("a", "b", "b", "a").Then(of("a", "b", "b", "a")), 0},
	} {
		if got := x.s.Len(); got != x.want || got != len(told(x.s)) {
			t.Errorf("%d: %d; want %d", i, got, x.want)
		}
	}
}

func TestRename(t *testing.T) {
	x := read("a -> b -> c -> T a (U b)")
	for i, y := range []struct {
		from, to []string
		want     string
	}{
		{nil, nil, "a -> b -> c -> T a (U b)"},
		{[]string{"a"}, []string{"x"}, "x -> b -> c -> T x (U b)"},
		{[]string{"d"}, []string{"x"}, "a -> b -> c -> T a (U b)"},
		{[]string{"a", "b"}, []string{"b", "a"}, "b -> a -> c -> T b (U a)"},
		{[]string{"a", "b", "c"}, []string{"b", "c", "a"}, "b -> c -> a -> T b (U c)"},
		{[]string{"a", "b"}, []string{"c", "c"}, "c -> c -> c -> T c (U c)"},
		{[]string{"c", "b", "a"}, []string{"z", "y", "x"}, "x -> y -> z -> T x (U y)"},
		{[]string{"a"}, []string{"a"}, "a -> b -> c -> T a (U b)"},
	} {
		is(t, subst.Rename(x, y.from, y.to), read(y.want))
		if t.Failed() {
			t.Fatal(i)
		}
	}
	is(t, subst.Rename(tcon("a", tvar("a")), []string{"a"}, []string{"b"}), tcon("a", tvar("b")))
	is(t, subst.Rename(tvar(""), []string{""}, []string{"?1"}), tvar("?1"))
	is(t, subst.Rename(tvar("a"), []string{"a"}, []string{""}), tvar(""))
	is(t, subst.Rename(tvar("a"), []string{"a"}, []string{"T"}), tvar("T"))
}

// The first of a name counts, also where it is renamed to itself.
func TestRenameTwice(t *testing.T) {
	x := read("T a b c")
	is(t, subst.Rename(x, []string{"a", "a"}, []string{"x", "y"}), read("T x b c"))
	is(t, subst.Rename(x, []string{"c", "a", "c", "a"}, []string{"w", "x", "y", "z"}), read("T x b w"))
	is(t, subst.Rename(x, []string{"a", "a"}, []string{"a", "y"}), read("T a b c"))
	is(t, subst.Rename(x, []string{"b", "a", "b"}, []string{"a", "b", "c"}), read("T b a c"))
}

// Where one list is shorter the names behind it are nobody's.
func TestRenameShort(t *testing.T) {
	x := read("T a b c")
	is(t, subst.Rename(x, []string{"a", "b"}, []string{"x"}), read("T x b c"))
	is(t, subst.Rename(x, []string{"a", "b", "c"}, nil), x)
	is(t, subst.Rename(x, nil, []string{"x", "y"}), x)
	is(t, subst.Rename(x, []string{"b"}, []string{"x", "y"}), read("T a x c"))
	is(t, subst.Rename(x, []string{"a", "a", "b"}, []string{"x", "y"}), read("T x b c"))
	is(t, subst.Rename(x, []string{"b", "a", "b"}, []string{"x"}), read("T a x c"))
}
