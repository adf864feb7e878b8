package classes_test

import (
	"reflect"
	"slices"
	"testing"

	"paideia/api"
	"paideia/classes"
	"paideia/printer"
)

const asksText = "class A a where { p :: a -> b -> c -> b; q :: b -> a; q = r }; class Z x where { }; class A x => B x where { r :: x; (==) :: b -> a -> x -> a; s :: L x -> P y x -> y }; " +
	"class (E a, B a) => C a where { }; class (F a, A a) => E a where { t :: a; u :: b -> c -> (c -> d -> a) -> b; u = \\x y -> case x of { N -> y; C z _ -> let { v :: Z a => a; v = 'v' } in v + 1 }; t = u (t == t) }; class F a where { w :: (a -> b) -> L (L c) -> a }"

// asks has several Adds behind it; some of them were amiss.
func asks(t *testing.T) *classes.Env {
	t.Helper()
	var e classes.Env
	l := readClasses(asksText)
	for _, part := range [][]api.Class{l[:1], {}, l[1:3], l[3:]} {
		if err := e.Add(someTypes(), part...); err != nil {
			t.Fatal(say(err))
		}
		for _, amiss := range []string{"class Y a where { y :: a; p :: a }", "class Y a where { y :: a }; class X a => X a where { x :: a }"} {
			if err := e.Add(someTypes(), readClasses(amiss)...); err == nil {
				t.Fatal("nothing")
			}
		}
	}
	return &e
}

func TestMethod(t *testing.T) {
	e := asks(t)
	for method, want := range map[string]struct {
		class string
		place int
	}{"p": {"A", 0}, "q": {"A", 1}, "r": {"B", 0}, "==": {"B", 1}, "s": {"B", 2}, "t": {"E", 0}, "u": {"E", 1}, "w": {"F", 0}} {
		if class, place, is := e.Method(method); class != want.class || place != want.place || !is {
			t.Errorf("%s: %s, %d, %t", method, class, place, is)
		}
	}
}

func TestScheme(t *testing.T) {
	e := asks(t)
	for method, want := range map[string]struct {
		text string
		vars []string
	}{
		"p":  {"A a => a -> b -> c -> b", []string{"a", "b", "c"}},
		"q":  {"A a => b -> a", []string{"a", "b"}},
		"r":  {"B x => x", []string{"x"}},
		"==": {"B x => b -> a -> x -> a", []string{"x", "b", "a"}},
		"s":  {"B x => L x -> P y x -> y", []string{"x", "y"}},
		"t":  {"E a => a", []string{"a"}},
		"u":  {"E a => b -> c -> (c -> d -> a) -> b", []string{"a", "b", "c", "d"}},
		"w":  {"F a => (a -> b) -> L (L c) -> a", []string{"a", "b", "c"}},
	} {
		s, is := e.Scheme(method)
		if printer.Scheme(s) != want.text || !slices.Equal(s.Vars, want.vars) || !is {
			t.Errorf("%s: %s, %q, %t", method, printer.Scheme(s), s.Vars, is)
		}
		class, place, _ := e.Method(method)
		k, _ := e.Class(class)
		if !areSame(s.Type, k.Methods[place].Type) {
			t.Errorf("%s: %v; want %v", method, s.Type, k.Methods[place].Type)
		}
		if !areSame(s.Context, []api.Pred{{Class: class, Type: api.Type{Kind: api.TVar, Name: k.Var}}}) {
			t.Errorf("%s: %v", method, s.Context)
		}
	}
}

// isNoMethod asks Method and Scheme of each name: each part of what they answer is its zero value.
func isNoMethod(t *testing.T, e *classes.Env, names ...string) {
	t.Helper()
	for _, name := range names {
		if class, place, is := e.Method(name); class != "" || place != 0 || is {
			t.Errorf("%s: %s, %d, %t", name, class, place, is)
		}
		s, is := e.Scheme(name)
		if is || len(s.Vars)+len(s.Context)+len(s.Type.Args) > 0 || s.Type.Kind != 0 || s.Type.Name != "" {
			t.Errorf("%s: %v, %t", name, s, is)
		}
	}
}

// isNoName asks Class and Above of each name.
func isNoName(t *testing.T, e *classes.Env, names ...string) {
	t.Helper()
	for _, name := range names {
		k, is := e.Class(name)
		if is || k.Name != "" || k.Var != "" || len(k.Supers)+len(k.Methods)+len(k.Defaults) > 0 || k.Pos != 0 {
			t.Errorf("%s: %v, %t", name, k, is)
		}
		if l := e.Above(name); len(l) > 0 {
			t.Errorf("%s: %q", name, l)
		}
	}
}

func TestNone(t *testing.T) {
	isNoMethod(t, asks(t), "", "A", "B", "Z", "a", "v", "x", "y", "z", "pp", "p'", "=", "/=", "N", "P")
	isNoName(t, asks(t), "", "p", "q", "==", "a", "x", "X", "Y", "AA", "A'", "L", "Int", "D")
	for _, e := range []*classes.Env{{}, with("")} {
		isNoMethod(t, e, "", "A", "p", "==", "show", "compare")
		isNoName(t, e, "", "A", "Eq", "Ord", "Show", "Num", "p")
	}
}

// plain is a value as lists of its parts, in which nil and the empty list are the same.
func plain(v reflect.Value) any {
	l := []any{}
	switch v.Kind() {
	case reflect.Slice:
		for i := range v.Len() {
			l = append(l, plain(v.Index(i)))
		}
	case reflect.Struct:
		for i := range v.NumField() {
			l = append(l, plain(v.Field(i)))
		}
	default:
		return v.Interface()
	}
	return l
}

func areSame(x, y any) bool {
	return reflect.DeepEqual(plain(reflect.ValueOf(x)), plain(reflect.ValueOf(y)))
}

func isClass(t *testing.T, got, want api.Class) {
	t.Helper()
	if !areSame(got, want) {
		t.Errorf("%v; want %v", got, want)
	}
}

// A class is told as it came, its place and its Defaults' expressions too.
func TestClass(t *testing.T) {
	e := asks(t)
	for i, want := range readClasses(asksText) {
		k, is := e.Class(want.Name)
		if !is {
			t.Error(want.Name)
		}
		isClass(t, k, want)
		if i > 0 && k.Pos == 0 {
			t.Error("no place")
		}
	}
	if k, _ := e.Class("E"); len(k.Methods) != 2 || k.Methods[0].Name != "t" || len(k.Defaults) != 2 || k.Defaults[0].Name != "u" || len(k.Supers) != 2 || k.Var != "a" {
		t.Error(k)
	}
}

func TestClasses(t *testing.T) {
	for i, e := range []*classes.Env{asks(t), {}} {
		want := [][]api.Class{readClasses(asksText), nil}[i]
		for range 2 {
			got := e.Classes()
			if len(got) != len(want) {
				t.Fatal(got)
			}
			for i := range got {
				isClass(t, got[i], want[i])
			}
		}
	}
}

// As they came: not by their names, not by their places, not by what is above what.
func TestClassesAsTheyCame(t *testing.T) {
	var e classes.Env
	var want []string
	for _, row := range [][]string{{"D", "B"}, {"Z"}, {}, {"A", "Y", "C"}, {"E"}} {
		var l []api.Class
		for i, name := range row {
			k := byHand(name, 100-len(want), name)
			k.Supers = row[i+1:]
			l = append(l, k)
			want = append(want, name)
		}
		if err := e.Add(someTypes(), l...); err != nil {
			t.Error(say(err))
		}
		var got []string
		for _, k := range e.Classes() {
			got = append(got, k.Name)
		}
		if !slices.Equal(got, want) {
			t.Errorf("%q; want %q", got, want)
		}
	}
}

func isAbove(t *testing.T, e *classes.Env, want map[string][]string) {
	t.Helper()
	for name, l := range want {
		if got := e.Above(name); !slices.Equal(got, l) {
			t.Errorf("%s: %q; want %q", name, got, l)
		}
	}
}

func TestAbove(t *testing.T) {
	isAbove(t, asks(t), map[string][]string{"A": nil, "Z": nil, "F": nil, "B": {"A"}, "E": {"F", "A"}, "C": {"E", "F", "A", "B"}, "Q": nil, "": nil, "p": nil})
	isAbove(t, with("class (C a, B a, D a) => A a where { }; class B a where { }; class C a where { }; class D a where { }"), map[string][]string{"A": {"C", "B", "D"}, "B": nil})
	isAbove(t, with("class D a where { }; class D a => C a where { }; class C a => B a where { }; class B a => A a where { }"), map[string][]string{"A": {"B", "C", "D"}, "B": {"C", "D"}, "C": {"D"}, "D": nil})
}

// Each of Supers, and all above that, ahead of the next one.
func TestAboveInOrder(t *testing.T) {
	tree := "class (B a, C a) => A a where { }; class (D a, E a) => B a where { }; class (F a, G a) => C a where { }; class D a where { }; class E a where { }; class F a where { }; class G a where { }"
	isAbove(t, with(tree), map[string][]string{"A": {"B", "D", "E", "C", "F", "G"}, "B": {"D", "E"}, "C": {"F", "G"}})
	isAbove(t, with("class (C a, B a) => A a where { }; class (E a, D a) => B a where { }; class (G a, F a) => C a where { }; class D a where { }; class E a where { }; class F a where { }; class G a where { }"), map[string][]string{"A": {"C", "G", "F", "B", "E", "D"}})
}

// A class that is above by two ways stands where it came first.
func TestAboveByTwoWays(t *testing.T) {
	ends := "; class D a where { }; class E a where { }"
	for text, want := range map[string][]string{
		"class (B a, C a) => A a where { }; class D a => B a where { }; class D a => C a where { }":                         {"B", "D", "C"},
		"class (C a, B a) => A a where { }; class D a => B a where { }; class D a => C a where { }":                         {"C", "D", "B"},
		"class (D a, B a) => A a where { }; class D a => B a where { }; class C a where { }":                                {"D", "B"},
		"class (B a, D a) => A a where { }; class D a => B a where { }; class C a where { }":                                {"B", "D"},
		"class (B a, D a, C a) => A a where { }; class (E a, C a) => B a where { }; class D a => C a where { }":             {"B", "E", "C", "D"},
		"class (C a, D a, B a) => A a where { }; class (E a, C a) => B a where { }; class D a => C a where { }":             {"C", "D", "B", "E"},
		"class (E a, B a, D a, C a) => A a where { }; class (E a, C a, D a) => B a where { }; class (E a) => C a where { }": {"E", "B", "C", "D"},
	} {
		isAbove(t, with(text+ends), map[string][]string{"A": want, "D": nil, "E": nil})
	}
}

// The class itself is not above itself, and what is below it neither.
func TestAboveIsNotBelow(t *testing.T) {
	e := known()
	for class, want := range map[string][]string{"X": {"B", "A"}, "Y": {"D", "B", "A"}} {
		if err := e.Add(someTypes(), byHandBelow(class, want[0])); err != nil {
			t.Error(say(err))
		}
		isAbove(t, e, map[string][]string{class: want, "A": nil, "B": {"A"}, "D": {"B", "A"}})
	}
}

func byHandBelow(name string, supers ...string) api.Class {
	return api.Class{Name: name, Var: "a", Supers: supers}
}

// Where classes and methods share names, each call asks for its own.
func TestAsksOfOneName(t *testing.T) {
	var e classes.Env
	up := byHand("X", 4, "Y", "X")
	up.Supers = []string{"Z", "Y"}
	if err := e.Add(someTypes(), byHand("Y", 1, "Z"), byHand("Z", 2), up); err != nil {
		t.Fatal(say(err))
	}
	for name, want := range map[string]struct {
		class string
		place int
		is    bool
	}{"X": {"X", 1, true}, "Y": {"X", 0, true}, "Z": {"Y", 0, true}} {
		if class, place, is := e.Method(name); class != want.class || place != want.place || is != want.is {
			t.Error(name, class, place, is)
		}
		if s, is := e.Scheme(name); !is || s.Context[0].Class != want.class {
			t.Error(name, s, is)
		}
		if k, is := e.Class(name); k.Name != name || !is {
			t.Error(name, k, is)
		}
	}
	isAbove(t, &e, map[string][]string{"X": {"Z", "Y"}, "Y": nil, "Z": nil})
}
