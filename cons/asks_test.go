package cons_test

import (
	"reflect"
	"slices"
	"testing"

	"paideia/api"
	"paideia/cons"
	"paideia/printer"
)

const asksText = "data T = X; data L a = N | C a (L a) deriving (Eq); data P b a = P (L a) (a -> b) Int | Q b; data E a b c = E; " +
	"data F a b = F1 | F2 b | F3 (F b a) (a -> b -> F a a) Char | F4 ((a -> T) -> b) deriving (Ord, Eq, Show)"

// asks has several Adds behind it; one of them was amiss.
func asks(t *testing.T) *cons.Env {
	t.Helper()
	var e cons.Env
	l := allDatas()
	for _, part := range [][]api.Data{l[:1], {}, l[1:4], l[4:]} {
		if err := e.Add(part...); err != nil {
			t.Fatal(say(err))
		}
		if err := e.Add(api.Data{Name: "Z", Cons: []api.Con{{Name: "Z"}, {Name: "X"}}}); err == nil {
			t.Fatal("nothing")
		}
	}
	return &e
}

// allDatas are those of asksText; E has no constructors, which no parser makes.
func allDatas() []api.Data {
	l := readDatas(asksText)
	l[3].Cons = nil
	return l
}

func TestArity(t *testing.T) {
	e := asks(t)
	for name, want := range map[string]int{"Int": 0, "Char": 0, "T": 0, "L": 1, "P": 2, "E": 3, "F": 2} {
		if n, is := e.Arity(name); n != want || !is {
			t.Errorf("%s: %d, %t; want %d", name, n, is, want)
		}
	}
	for _, name := range []string{"", "X", "N", "C", "Q", "F1", "Z", "Eq", "a", "->", "int", "TT", "Ints"} {
		if n, is := e.Arity(name); n != 0 || is {
			t.Errorf("%s: %d, %t", name, n, is)
		}
	}
}

func TestArityOfTheZeroValue(t *testing.T) {
	var e cons.Env
	for name, want := range map[string]bool{"Int": true, "Char": true, "": false, "T": false, "->": false, "Unit": false, "Bool": false, "int": false} {
		if n, is := e.Arity(name); n != 0 || is != want {
			t.Errorf("%s: %d, %t", name, n, is)
		}
	}
}

func TestScheme(t *testing.T) {
	e := asks(t)
	for con, want := range map[string]struct {
		text string
		vars []string
	}{
		"X":  {"T", nil},
		"N":  {"L a", []string{"a"}},
		"C":  {"a -> L a -> L a", []string{"a"}},
		"P":  {"L a -> (a -> b) -> Int -> P b a", []string{"b", "a"}},
		"Q":  {"b -> P b a", []string{"b", "a"}},
		"F1": {"F a b", []string{"a", "b"}},
		"F2": {"b -> F a b", []string{"a", "b"}},
		"F3": {"F b a -> (a -> b -> F a a) -> Char -> F a b", []string{"a", "b"}},
		"F4": {"((a -> T) -> b) -> F a b", []string{"a", "b"}},
	} {
		s, is := e.Scheme(con)
		if printer.Scheme(s) != want.text || !slices.Equal(s.Vars, want.vars) || len(s.Context) > 0 || !is {
			t.Errorf("%s: %s, %q, %v, %t", con, printer.Scheme(s), s.Vars, s.Context, is)
		}
		if !reflect.DeepEqual(plain(s.Type), plain(readType(want.text))) {
			t.Errorf("%s: %v", con, s.Type)
		}
	}
	isNoConstructor(t, e, "", "T", "L", "E", "F", "Int", "Char", "Z", "x", "F5", "a", "XX")
	isNoConstructor(t, &cons.Env{}, "", "Int", "Char", "X", "Unit", "Nil", "Cons", "True")
}

// plain is a type in which each empty list is nil.
func plain(t api.Type) api.Type {
	var args []api.Type
	for _, x := range t.Args {
		args = append(args, plain(x))
	}
	t.Args = args
	return t
}

// isNoConstructor asks Scheme and Place of each name: each part of what they answer is its zero value.
func isNoConstructor(t *testing.T, e *cons.Env, names ...string) {
	t.Helper()
	for _, name := range names {
		s, is := e.Scheme(name)
		if is || len(s.Vars)+len(s.Context)+len(s.Type.Args) > 0 || s.Type.Kind != 0 || s.Type.Name != "" {
			t.Errorf("%s: %v, %t", name, s, is)
		}
		if typ, place, is := e.Place(name); typ != "" || place != 0 || is {
			t.Errorf("%s: %s, %d, %t", name, typ, place, is)
		}
	}
}

func TestPlace(t *testing.T) {
	e := asks(t)
	for con, want := range map[string]struct {
		typ   string
		place int
	}{"X": {"T", 0}, "N": {"L", 0}, "C": {"L", 1}, "P": {"P", 0}, "Q": {"P", 1}, "F1": {"F", 0}, "F2": {"F", 1}, "F3": {"F", 2}, "F4": {"F", 3}} {
		if typ, place, is := e.Place(con); typ != want.typ || place != want.place || !is {
			t.Errorf("%s: %s, %d, %t", con, typ, place, is)
		}
	}
}

// Where types and constructors share names, each call asks for its own.
func TestAsksOfOneName(t *testing.T) {
	e := with("data T a = V | W a; data V = X | T; data Q a b = Int | Char Int; data W = W' (Q V Char) Int | Q")
	for con, want := range map[string]string{"V": "T a", "W": "a -> T a", "T": "V", "X": "V", "Int": "Q a b", "Char": "Int -> Q a b", "W'": "Q V Char -> Int -> W", "Q": "W"} {
		if s, is := e.Scheme(con); printer.Scheme(s) != want || !is {
			t.Errorf("%s: %s, %t", con, printer.Scheme(s), is)
		}
	}
	for name, want := range map[string]int{"T": 1, "V": 0, "Q": 2, "W": 0, "Int": 0, "Char": 0} {
		if n, is := e.Arity(name); n != want || !is {
			t.Errorf("%s: %d, %t", name, n, is)
		}
	}
	if typ, place, is := e.Place("T"); typ != "V" || place != 1 || !is {
		t.Error(typ, place, is)
	}
	if typ, place, is := e.Place("Char"); typ != "Q" || place != 1 || !is {
		t.Error(typ, place, is)
	}
	if d, is := e.Data("V"); d.Name != "V" || len(d.Cons) != 2 || !is {
		t.Error(d, is)
	}
	for _, name := range []string{"Int", "Char", "X", "W'"} {
		if d, is := e.Data(name); d.Name != "" || is {
			t.Error(d, is)
		}
	}
}

// plainData is a definition in which each empty list is nil.
func plainData(d api.Data) api.Data {
	var cons []api.Con
	for _, c := range d.Cons {
		var args []api.Type
		for _, t := range c.Args {
			args = append(args, plain(t))
		}
		cons = append(cons, api.Con{Name: c.Name, Args: args})
	}
	d.Vars, d.Cons, d.Deriving = append([]string(nil), d.Vars...), cons, append([]string(nil), d.Deriving...)
	return d
}

func isData(t *testing.T, got, want api.Data) {
	t.Helper()
	if !reflect.DeepEqual(plainData(got), plainData(want)) {
		t.Errorf("%v; want %v", got, want)
	}
}

// A definition is told as it came, its place and what it derives too.
func TestData(t *testing.T) {
	e := asks(t)
	for i, want := range allDatas() {
		d, is := e.Data(want.Name)
		if !is {
			t.Error(want.Name)
		}
		isData(t, d, want)
		if i > 0 && d.Pos == 0 {
			t.Error("no place")
		}
	}
	for _, e := range []*cons.Env{e, {}} {
		for _, name := range []string{"", "Int", "Char", "X", "N", "Z", "F1", "->", "Eq"} {
			d, is := e.Data(name)
			if is || d.Name != "" || len(d.Vars)+len(d.Cons)+len(d.Deriving) > 0 || d.Pos != 0 {
				t.Errorf("%s: %v, %t", name, d, is)
			}
		}
	}
}

func TestDatas(t *testing.T) {
	for i, e := range []*cons.Env{asks(t), {}} {
		want := [][]api.Data{allDatas(), nil}[i]
		for range 2 {
			got := e.Datas()
			if len(got) != len(want) {
				t.Fatal(got)
			}
			for i := range got {
				isData(t, got[i], want[i])
			}
		}
	}
}

// As they came: not by their names, not by their places.
func TestDatasAsTheyCame(t *testing.T) {
	var e cons.Env
	var want []string
	for _, row := range [][]string{{"D", "B"}, {"Z"}, {}, {"A", "Y", "C"}, {"E"}} {
		var l []api.Data
		for _, name := range row {
			l = append(l, api.Data{Name: name, Pos: 100 - len(want)})
			want = append(want, name)
		}
		if err := e.Add(l...); err != nil {
			t.Error(say(err))
		}
		var got []string
		for _, d := range e.Datas() {
			got = append(got, d.Name)
		}
		if !slices.Equal(got, want) {
			t.Errorf("%q; want %q", got, want)
		}
	}
}
