package insts_test

import (
	"reflect"
	"slices"
	"testing"

	"paideia/api"
	"paideia/insts"
)

const asksText = "instance (A a, D a) => A (L a) where { q = \\x y -> case x of { N -> y; C z _ -> let { v :: D a => a; v = 'v' } in v + 1 }; p = q (q == q) }; instance D U where { }; " +
	"instance A U where { p = 1 }; instance D (L b) where { }; instance (E c, A a, E a) => B (W a b c) where { s = s; r = 2 }; instance B Int where { }"

// asks has several Adds behind it; some of them were amiss.
func asks(t *testing.T) *insts.Env {
	t.Helper()
	var e insts.Env
	l := readInstances(asksText)
	for _, part := range [][]api.Instance{l[:1], {}, l[1:4], l[4:]} {
		isSaid(t, add(&e, part...), "nothing")
		for _, amiss := range []string{"instance E U where { }; instance A (L a) where { }", "instance E Int where { }; instance E (P a b) where { t = t }; instance A Char where { z = z }"} {
			if err := add(&e, readInstances(amiss)...); err == nil {
				t.Fatal("nothing")
			}
		}
	}
	return &e
}

// plain is a value as lists of its parts, in which nil and the empty list are the same.
func plain(v reflect.Value) any {
	l := []any{}
	switch v.Kind() {
	case reflect.Slice:
		for i := range v.Len() {
			l = append(l, plain(v.Index(i)))
		}
	case reflect.Struct:
		for i := range v.NumField() {
			l = append(l, plain(v.Field(i)))
		}
	default:
		return v.Interface()
	}
	return l
}

func areSame(x, y any) bool {
	return reflect.DeepEqual(plain(reflect.ValueOf(x)), plain(reflect.ValueOf(y)))
}

// An instance is told as it came, its place and its Binds' expressions too.
func TestFind(t *testing.T) {
	e := asks(t)
	for n, want := range readInstances(asksText) {
		i, is := e.Find(want.Class, want.Con)
		if !is || !areSame(i, want) {
			t.Errorf("%v, %t; want %v", i, is, want)
		}
		if n > 0 && i.Pos == 0 {
			t.Error("no place")
		}
	}
	if i, _ := e.Find("B", "W"); i.Class != "B" || i.Con != "W" || !slices.Equal(i.Vars, []string{"a", "b", "c"}) || len(i.Context) != 3 || i.Context[0].Class != "E" || i.Context[0].Type.Name != "c" || len(i.Binds) != 2 || i.Binds[0].Name != "s" || i.Binds[1].Body.N != 2 {
		t.Error(i)
	}
}

// isNone asks for an instance that is not there: each part of what is answered is its zero value.
func isNone(t *testing.T, e *insts.Env, class, con string) {
	t.Helper()
	i, is := e.Find(class, con)
	if is || !areSame(i, api.Instance{}) {
		t.Errorf("%q, %q: %v, %t", class, con, i, is)
	}
}

func TestFindNone(t *testing.T) {
	e := asks(t)
	there := map[string]bool{}
	for _, i := range readInstances(asksText) {
		there[i.Class+" "+i.Con] = true
	}
	for _, class := range someClasses() {
		for _, con := range someCons() {
			if !there[class+" "+con] {
				isNone(t, e, class, con)
			}
			isNone(t, &insts.Env{}, class, con)
		}
	}
	// a class and a type of others, names that stand elsewhere, and a bit more or less of one
	for _, x := range [][2]string{{"A", "Int"}, {"B", "L"}, {"D", "W"}, {"B", "U"}, {"L", "A"}, {"A", "A"}, {"A", "a"}, {"", "L"}, {"A", ""}, {"AL", ""}, {"", "AL"}, {"A:L", ""}, {"", "A:L"}, {"A:", "L"}, {"A", ":L"}, {"A", "LL"}, {"B", "I"}, {"q", "L"}} {
		isNone(t, e, x[0], x[1])
	}
}

// The names of a class and of a type do not run into one another, whatever is in them.
func TestFindOfOneKey(t *testing.T) {
	var e insts.Env
	c, k := typesOf(""), classesOf("")
	for _, name := range []string{"A", "A:B", "B", "B:C", "C", "", ":", "::"} {
		if c.Add(api.Data{Name: name}) != nil || k.Add(c, api.Class{Name: name}) != nil {
			t.Fatal(name)
		}
	}
	for n, x := range [][2]string{{"A:B", "C"}, {"A", "B:C"}, {"", "::"}, {":", ":"}, {"::", ""}} {
		isNone(t, &e, x[0], x[1])
		isSaid(t, e.Add(c, k, api.Instance{Class: x[0], Con: x[1], Pos: n}), "nothing")
		if i, is := e.Find(x[0], x[1]); i.Pos != n || !is {
			t.Error(i, is)
		}
	}
	for n, x := range [][2]string{{"A:B", "C"}, {"A", "B:C"}, {"", "::"}, {":", ":"}, {"::", ""}} {
		if i, is := e.Find(x[0], x[1]); i.Pos != n || i.Class != x[0] || i.Con != x[1] || !is {
			t.Error(i, is)
		}
	}
	if count(&e) != 5 {
		t.Error(count(&e))
	}
}

// keys are the Keys of all that All tells.
func keys(e *insts.Env) (text string) {
	for i := range e.All() {
		text += insts.Key(i.Class, i.Con) + " "
	}
	return text
}

func areInstances(t *testing.T, got, want []api.Instance) {
	t.Helper()
	if !areSame(got, want) {
		t.Errorf("%v; want %v", got, want)
	}
}

func TestAll(t *testing.T) {
	areInstances(t, slices.Collect(asks(t).All()), readInstances(asksText))
	areInstances(t, slices.Collect(new(insts.Env).All()), nil)
	areInstances(t, slices.Collect(with("").All()), nil)
	areInstances(t, slices.Collect(with("instance A U where { }").All()), readInstances("instance A U where { }"))
}

// As they came: not by their names, not by their places.
func TestAllAsTheyCame(t *testing.T) {
	var e insts.Env
	var want []api.Instance
	for n, row := range [][][2]string{{{"D", "U"}, {"A", "U"}}, {{"B", "Int"}}, {}, {{"A", "Int"}, {"B", "Char"}, {"D", "Char"}}, {{"A", "Char"}}} {
		var l []api.Instance
		for m, x := range row {
			l = append(l, api.Instance{Class: x[0], Con: x[1], Pos: 100 - 10*n - m})
		}
		want = append(want, l...)
		isSaid(t, add(&e, l...), "nothing")
		areInstances(t, slices.Collect(e.All()), want)
	}
}

// What is told may be left at each one, the first too; then nothing is told any more.
func TestAllStopped(t *testing.T) {
	e, want := asks(t), readInstances(asksText)
	for most := 1; most <= len(want); most++ {
		var got []api.Instance
		for i := range e.All() {
			got = append(got, i)
			if len(got) == most {
				break
			}
		}
		areInstances(t, got, want[:most])
		calls := 0
		e.All()(func(api.Instance) bool {
			calls++
			return calls < most
		})
		if calls != most {
			t.Errorf("%d calls behind the stop", calls-most)
		}
	}
	for range new(insts.Env).All() {
		t.Error("something")
	}
	areInstances(t, slices.Collect(e.All()), want)
}

// What All answers may be ranged over again, also where it was left before its end, and within itself.
func TestAllTwice(t *testing.T) {
	want := readInstances(asksText)
	all := asks(t).All()
	for range all {
		break
	}
	areInstances(t, slices.Collect(all), want)
	areInstances(t, slices.Collect(all), want)
	n := 0
	for i := range all {
		areInstances(t, []api.Instance{i}, want[n:n+1])
		areInstances(t, slices.Collect(all), want)
		n++
	}
	if n != len(want) {
		t.Error(n)
	}
}

// All hangs on the calls made before: what is added behind it, also while it is ranged over, the next All tells.
func TestAllOfThen(t *testing.T) {
	var e insts.Env
	none := e.All()
	var all []func(yield func(api.Instance) bool)
	l := readInstances(asksText)
	for n := range l {
		isSaid(t, add(&e, l[n]), "nothing")
		all = append(all, e.All())
	}
	areInstances(t, slices.Collect(none), nil)
	for n, x := range all {
		areInstances(t, slices.Collect(x), l[:n+1])
	}
	n := 0
	for range e.All() {
		isSaid(t, add(&e, api.Instance{Class: "E", Con: []string{"Int", "Char", "U", "L", "P", "W"}[n], Vars: []string{"a", "b", "c"}[:[]int{0, 0, 0, 1, 2, 3}[n]]}), "nothing")
		n++
	}
	if n != len(l) || count(&e) != 2*n || keys(&e) != "A:L D:U A:U D:L B:W B:Int E:Int E:Char E:U E:L E:P E:W " {
		t.Error(n, keys(&e))
	}
}

func TestKey(t *testing.T) {
	for _, x := range [][3]string{{"Eq", "Int", "Eq:Int"}, {"Ord", "List", "Ord:List"}, {"Show", "Pair", "Show:Pair"}, {"Q", "Nobody", "Q:Nobody"}, {"", "", ":"}, {"A", "", "A:"}, {"", "L", ":L"}, {"A", "->", "A:->"}, {"a:b", ":c", "a:b::c"}, {" ", "\x00", " :\x00"}, {"\xff", "é", "\xff:é"}} {
		if got := insts.Key(x[0], x[1]); got != x[2] {
			t.Errorf("%q; want %q", got, x[2])
		}
	}
}
