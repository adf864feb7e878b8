package cons_test

import (
	"math"
	"slices"
	"testing"

	"paideia/api"
	"paideia/cons"
	"paideia/printer"
	"paideia/types"
)

// isAdded adds definitions made by hand to known.
func isAdded(t *testing.T, want string, l ...api.Data) *cons.Env {
	t.Helper()
	e := known()
	before := tell(e)
	if got := say(e.Add(l...)); got != want {
		t.Errorf("%v: %s; want %s", l, got, want)
	}
	if want != "nothing" && tell(e) != before {
		t.Errorf("%v: behind an error it tells\n%s; before that\n%s", l, tell(e), before)
	}
	return e
}

// of is a type of one constructor that has one argument.
func of(x api.Type, vars ...string) api.Data {
	return api.Data{Name: "T", Vars: vars, Cons: []api.Con{{Name: "X", Args: []api.Type{x}}}, Pos: 8}
}

func TestZeroValue(t *testing.T) {
	var e cons.Env
	if l := e.Datas(); len(l) > 0 {
		t.Error(l)
	}
	isNoConstructor(t, &e, "", "Int", "Char", "N")
	if d, is := e.Data("Int"); is || d.Name != "" {
		t.Error(d)
	}
	if err := e.Kind(api.Type{}); err != nil {
		t.Error(err)
	}
	for range 2 {
		if err := e.Add(readDatas("data Int = X")...); say(err) != "0: a name twice" {
			t.Error(say(err))
		}
		if err := e.Add(readDatas("data T = X Q")...); say(err) != "0: a name that is nobody's" {
			t.Error(say(err))
		}
	}
	if text := tell(&e); text != tell(&cons.Env{}) {
		t.Error(text)
	}
}

// nil and the empty list are the same, at each place.
func TestEmptyLists(t *testing.T) {
	full := api.Data{Name: "T", Vars: []string{}, Cons: []api.Con{{Name: "X", Args: []api.Type{}}, {Name: "Y", Args: []api.Type{{Kind: api.TCon, Name: "T", Args: []api.Type{}}}}}, Deriving: []string{}}
	none := api.Data{Name: "T", Cons: []api.Con{{Name: "X"}, {Name: "Y", Args: []api.Type{{Kind: api.TCon, Name: "T"}}}}}
	if got, want := tell(isAdded(t, "nothing", full)), tell(isAdded(t, "nothing", none)); got != want {
		t.Errorf("%s; want %s", got, want)
	}
	e := isAdded(t, "nothing", api.Data{Name: "V", Cons: []api.Con{}}, api.Data{Name: "W"})
	for _, name := range []string{"V", "W"} {
		if d, is := e.Data(name); d.Name != name || len(d.Cons) > 0 || !is {
			t.Error(d, is)
		}
	}
	for _, args := range [][]api.Type{nil, {}} {
		for name, want := range map[string]error{"V": nil, "Int": nil, "U": nil, "L": api.ErrKind, "Q": api.ErrScope} {
			if err := e.Kind(api.Type{Kind: api.TCon, Name: name, Args: args}); err != want {
				t.Errorf("%s: %v", name, err)
			}
		}
	}
}

// The empty name is one like others: nobody's, until it is defined; then it is there, and may not be again.
func TestEmptyNames(t *testing.T) {
	none := types.Con("")
	isAdded(t, "8: a name that is nobody's", of(none))
	isAdded(t, "8: a name that is nobody's", of(types.Var("")))
	isAdded(t, "8: a name that is nobody's", of(types.Var(""), "a"))
	isAdded(t, "nothing", of(types.Var(""), ""))
	isAdded(t, "3: a name twice", api.Data{}, api.Data{Pos: 3})
	isAdded(t, "2: a name twice", api.Data{Cons: []api.Con{{}, {}}, Pos: 2})
	isAdded(t, "2: a name twice", api.Data{Cons: []api.Con{{}}}, api.Data{Name: "T", Cons: []api.Con{{}}, Pos: 2})
	e := isAdded(t, "nothing", api.Data{Vars: []string{""}, Cons: []api.Con{{Args: []api.Type{types.Con("", types.Var(""))}}}, Deriving: []string{""}})
	if n, is := e.Arity(""); n != 1 || !is {
		t.Error(n, is)
	}
	if s, is := e.Scheme(""); !is || !slices.Equal(s.Vars, []string{""}) || !types.Same(s.Type, types.Fun(types.Con("", types.Var("")), types.Con("", types.Var("")))) {
		t.Error(s, is)
	}
	if typ, place, is := e.Place(""); typ != "" || place != 0 || !is {
		t.Error(typ, place, is)
	}
	if d, is := e.Data(""); !is || len(d.Cons) != 1 || len(e.Datas()) != 4 {
		t.Error(d, is)
	}
	if err := e.Kind(none); err != api.ErrKind {
		t.Error(err)
	}
	if err := e.Add(api.Data{Pos: 5}); say(err) != "5: a name twice" {
		t.Error(say(err))
	}
}

func oddNames() []string {
	return []string{"", "\xff", "\x80", "\x00", "é", "a b", "A B", "a", "_", "(+)", "=", "?1", "data", "->", "Int ", "int", "Int\x00", " Char"}
}

// Names are names, whatever their bytes are; each is itself alone.
func TestOddNames(t *testing.T) {
	var l []api.Data
	for i, name := range oddNames() {
		l = append(l, api.Data{Name: name, Vars: oddNames()[:i], Cons: []api.Con{{Name: name, Args: []api.Type{types.Con(""), types.Fun(types.Con("\xff", types.Con("")))}}}, Pos: i})
	}
	e := isAdded(t, "nothing", l...)
	for i, name := range oddNames() {
		if n, is := e.Arity(name); n != i || !is {
			t.Errorf("%q: %d, %t", name, n, is)
		}
		if typ, place, is := e.Place(name); typ != name || place != 0 || !is {
			t.Errorf("%q: %q, %d, %t", name, typ, place, is)
		}
		if d, is := e.Data(name); d.Name != name || d.Pos != i || !is {
			t.Errorf("%q: %v, %t", name, d, is)
		}
		if s, is := e.Scheme(name); !is || !slices.Equal(s.Vars, oddNames()[:i]) {
			t.Errorf("%q: %v, %t", name, s, is)
		}
		if err := e.Add(api.Data{Name: name, Pos: 99}); say(err) != "99: a name twice" {
			t.Errorf("%q: %s", name, say(err))
		}
		if err := e.Add(api.Data{Name: "New", Cons: []api.Con{{Name: name}}, Pos: 98}); say(err) != "98: a name twice" {
			t.Errorf("%q: %s", name, say(err))
		}
	}
	// beyond what a parser takes: a long name, many arguments
	long := string(slices.Repeat([]byte("T"), 3*api.MaxName))
	isAdded(t, "nothing", api.Data{Name: long, Vars: []string{"a"}, Cons: []api.Con{{Name: long, Args: slices.Repeat([]api.Type{types.Con(long, types.Var("a"))}, 3*api.MaxArgs)}}})
	isAdded(t, "8: a name that is nobody's", api.Data{Name: long}, of(types.Con(long[1:])))
}

// A place is told as it is, whatever it is.
func TestOddPlaces(t *testing.T) {
	for _, pos := range []int{math.MinInt, -1, 0, 1, math.MaxInt} {
		for i, l := range [][]api.Data{
			{{Name: "Int", Pos: pos}},
			{{Name: "T"}, {Name: "T", Pos: pos}},
			{{Name: "T", Cons: []api.Con{{Name: "N"}}, Pos: pos}},
			{{Name: "T", Pos: 5}, {Name: "V", Cons: []api.Con{{Name: "X", Args: []api.Type{types.Con("Q")}}}, Pos: pos}, {Name: "W", Pos: 6}},
			{{Name: "V", Cons: []api.Con{{Name: "X", Args: []api.Type{types.Con("L")}}}, Pos: pos}},
			{{Name: "V", Cons: []api.Con{{Name: "X", Args: []api.Type{types.Var("a")}}}, Pos: pos}},
		} {
			at, ok := known().Add(l...).(*api.At)
			if !ok || at.Pos != pos {
				t.Errorf("%d: %+v; want %d", i, at, pos)
			}
		}
		e := isAdded(t, "nothing", api.Data{Name: "T", Pos: pos})
		if d, _ := e.Data("T"); d.Pos != pos || e.Datas()[3].Pos != pos {
			t.Error(d)
		}
	}
}

// That a type's variables are apart is asked elsewhere: here one that is there twice counts as often as it stands.
func TestVariablesTwice(t *testing.T) {
	e := isAdded(t, "nothing", api.Data{Name: "T", Vars: []string{"a", "b", "a"}, Cons: []api.Con{{Name: "X", Args: []api.Type{types.Var("a"), types.Con("T", types.Var("a"), types.Var("b"), types.Var("b"))}}}})
	if n, is := e.Arity("T"); n != 3 || !is {
		t.Error(n, is)
	}
	if s, _ := e.Scheme("X"); printer.Scheme(s) != "a -> T a b b -> T a b a" || !slices.Equal(s.Vars, []string{"a", "b", "a"}) {
		t.Error(s)
	}
	if d, _ := e.Data("T"); !slices.Equal(d.Vars, []string{"a", "b", "a"}) {
		t.Error(d)
	}
}

// What a type derives is told as it came, whatever it is: whether that can be is asked elsewhere.
func TestOddDeriving(t *testing.T) {
	odd := []string{"Num", "Eq", "", "Eq", "a", "T"}
	e := isAdded(t, "nothing", api.Data{Name: "T", Deriving: odd})
	if d, _ := e.Data("T"); !slices.Equal(d.Deriving, odd) {
		t.Error(d)
	}
}

// Functions of other than two, variables of arguments: their parts are looked at like others.
func TestOddTypes(t *testing.T) {
	e := known()
	for _, l := range []struct {
		args []api.Type
		want error
	}{
		{nil, nil}, {[]api.Type{types.Var("a")}, nil}, {[]api.Type{types.Con("Int"), types.Var("a"), types.Con("U")}, nil},
		{[]api.Type{types.Con("Q")}, api.ErrScope}, {[]api.Type{types.Con("U"), types.Con("U"), types.Con("Q")}, api.ErrScope}, {[]api.Type{types.Var("a"), types.Con("L"), types.Con("Q")}, api.ErrKind},
	} {
		for _, x := range []api.Type{{Kind: api.TFun, Args: l.args}, {Kind: api.TFun, Name: "L", Args: l.args}, {Kind: api.TVar, Name: "a", Args: l.args}} {
			if err := e.Kind(x); err != l.want {
				t.Errorf("%v: %v; want %v", x, err, l.want)
			}
			if err := known().Add(of(x, "a")); (l.want == nil) != (err == nil) || err != nil && err.(*api.At).Err != l.want {
				t.Errorf("%v: %s; want %v", x, say(err), l.want)
			}
			if err := known().Add(of(x, "b")); (l.want == nil) && x.Kind == api.TVar && say(err) != "8: a name that is nobody's" {
				t.Errorf("%v: %s", x, say(err))
			}
		}
	}
	isAdded(t, "8: a name that is nobody's", of(api.Type{Kind: api.TFun, Args: []api.Type{types.Var("a"), types.Var("b"), types.Var("c")}}, "a", "b"))
	isAdded(t, "8: a name that is nobody's", of(api.Type{Kind: api.TFun, Name: "c", Args: []api.Type{types.Var("c")}}, "a", "b"))
	isAdded(t, "nothing", of(api.Type{Kind: api.TFun, Name: "c", Args: []api.Type{types.Var("b")}}, "a", "b"))
}

func kinds() []int {
	return []int{math.MinInt, -1, 0, api.TVar, api.TCon, api.TFun, api.TAll, 5, math.MaxInt}
}

// lacking are types of each kind, and of kinds that are none, with as many arguments as none, one, two, three.
func lacking() (l []api.Type) {
	for _, kind := range kinds() {
		for _, name := range []string{"", "a", "b", "Int", "L", "Q", "T"} {
			for n := range 4 {
				l = append(l, api.Type{Kind: kind, Name: name, Args: []api.Type{types.Var("a"), {}, types.Con("L")}[:n:n]})
			}
		}
	}
	return l
}

// No call panics, whatever is lacking or too much, and what was added is told as it was.
func TestNoneOfThemPanics(t *testing.T) {
	for _, x := range lacking() {
		for _, y := range lacking() {
			e := known()
			d := api.Data{Name: "T", Vars: []string{"a"}, Cons: []api.Con{{Name: "X", Args: []api.Type{x, y}}, {Args: []api.Type{types.Fun(y, x)}}}, Deriving: []string{"", "L"}, Pos: -1}
			err := e.Add(d)
			both := e.Kind(types.Con("P", x, y))
			if err == nil {
				got, _ := e.Data("T")
				isData(t, got, d)
				s, is := e.Scheme("X")
				if want := types.Fun(x, y, types.Con("T", types.Var("a"))); !types.Same(s.Type, want) || !is || both != nil {
					t.Fatalf("%v; want %v; %v", s, want, both)
				}
				continue
			}
			if at, ok := err.(*api.At); !ok || at.Pos != -1 || at.Err != api.ErrScope && at.Err != api.ErrKind || len(e.Datas()) != 3 {
				t.Fatalf("%v: %s", d, say(err))
			}
		}
	}
}
