package insts_test

import (
	"fmt"
	"strings"
	"testing"

	"paideia/api"
	"paideia/classes"
	"paideia/cons"
	"paideia/insts"
	"paideia/parser"
	"paideia/types"
)

func readProgram(text string) api.Program {
	p, err := parser.Program([]byte(text))
	if err != nil {
		panic(text + ": " + err.Error())
	}
	return p
}

func readInstances(text string) []api.Instance { return readProgram(text).Instances }

// base are types of no argument to three, and classes with and without methods, one of them below another one.
const base = "data U = U; data L a = N | C a (L a); data P a b = P (L a) (a -> b) Int; data W a b c = W1 | W2; class A a where { p :: a -> b -> c; q :: a; p = q }; class A x => B x where { r :: x; s :: x -> x; (==) :: x -> x -> U }; class D a where { }; class (D a, B a) => E a where { t :: a }"

func typesOf(text string) *cons.Env {
	var c cons.Env
	if err := c.Add(readProgram(text).Datas...); err != nil {
		panic(text + ": " + err.Error())
	}
	return &c
}

func classesOf(text string) *classes.Env {
	var k classes.Env
	if err := k.Add(typesOf(text), readProgram(text).Classes...); err != nil {
		panic(text + ": " + err.Error())
	}
	return &k
}

const knownText = "instance A Int where { q = 1 }; instance (A a, D a) => A (L a) where { }; instance D (P x y) where { }; instance B U where { s = \\x -> r; r = U }"

func known() *insts.Env { return with(knownText) }

// with has the instances of a text.
func with(text string) *insts.Env {
	var e insts.Env
	if err := add(&e, readInstances(text)...); err != nil {
		panic(text + ": " + say(err))
	}
	return &e
}

// add is Add with the types and the classes of base.
func add(e *insts.Env, l ...api.Instance) error { return e.Add(typesOf(base), classesOf(base), l...) }

// say is an error in words: what it is, and its place.
func say(err error) string {
	if err == nil {
		return "nothing"
	}
	at, ok := err.(*api.At)
	if !ok || at == nil {
		return "no place: " + err.Error()
	}
	switch at.Err {
	case api.ErrTwice, api.ErrClass, api.ErrScope, api.ErrKind:
		return at.Error()
	}
	return "none of ErrTwice, ErrClass, ErrScope, ErrKind: " + at.Error()
}

func isSaid(t *testing.T, err error, want string) {
	t.Helper()
	if say(err) != want {
		t.Errorf("%s; want %s", say(err), want)
	}
}

// someClasses and someCons are names that stand in the tests.
func someClasses() []string { return []string{"", "A", "B", "D", "E", "Q", "L", "X", "A:L", "p", "a"} }

func someCons() []string {
	return []string{"", "Int", "Char", "U", "L", "P", "W", "Q", "A", "N", "X", "->", ":L", "L:", "a"}
}

// tell is all that an Env tells.
func tell(e *insts.Env) string {
	var text strings.Builder
	for _, class := range someClasses() {
		for _, con := range someCons() {
			i, is := e.Find(class, con)
			fmt.Fprintf(&text, "%s %s: %v %t\n", class, con, i, is)
		}
	}
	for i := range e.All() {
		fmt.Fprintf(&text, "%v\n", i)
	}
	return text.String()
}

func count(e *insts.Env) (n int) {
	for range e.All() {
		n++
	}
	return n
}

// addFault adds the instances of a text to known: err around the @ of the text, which is no word of the language; nothing, if err is nil. Behind an error all is as it was.
func addFault(t *testing.T, text string, err error) {
	t.Helper()
	pos, want := strings.Index(text, "@"), error(nil)
	if err != nil {
		want = &api.At{Pos: pos, Err: err}
	}
	if (pos < 0) != (err == nil) {
		t.Fatal("no place, or one too much:", text)
	}
	l := readInstances(strings.Replace(text, "@", "", 1))
	e := known()
	before, n := tell(e), count(e)
	got := add(e, l...)
	if say(got) != say(want) {
		t.Errorf("%s: %s; want %s", text, say(got), say(want))
		return
	}
	if err != nil && tell(e) != before {
		t.Errorf("%s: behind an error it tells\n%s; before that\n%s", text, tell(e), before)
	}
	if err != nil {
		return
	}
	if count(e) != n+len(l) {
		t.Errorf("%s: there are %d", text, count(e))
	}
	for _, x := range l {
		if got, is := e.Find(x.Class, x.Con); !is || !areSame(got, x) {
			t.Errorf("%s: %v, %t; want %v", text, got, is, x)
		}
	}
}

func isWell(t *testing.T, texts ...string) {
	t.Helper()
	for _, text := range texts {
		addFault(t, text, nil)
	}
}

func isTwice(t *testing.T, texts ...string) {
	t.Helper()
	for _, text := range texts {
		addFault(t, text, api.ErrTwice)
	}
}

func isNoClass(t *testing.T, texts ...string) {
	t.Helper()
	for _, text := range texts {
		addFault(t, text, api.ErrClass)
	}
}

func isNobodys(t *testing.T, texts ...string) {
	t.Helper()
	for _, text := range texts {
		addFault(t, text, api.ErrScope)
	}
}

func isKind(t *testing.T, texts ...string) {
	t.Helper()
	for _, text := range texts {
		addFault(t, text, api.ErrKind)
	}
}

func TestAddOfNothing(t *testing.T) {
	isWell(t, "", ";;", "f = f; data Q = Q; class Q a where { }")
	e := known()
	before := tell(e)
	for _, l := range [][]api.Instance{nil, {}, make([]api.Instance, 0, 3)} {
		isSaid(t, add(e, l...), "nothing")
		isSaid(t, e.Add(&cons.Env{}, &classes.Env{}, l...), "nothing")
	}
	if tell(e) != before {
		t.Error(tell(e))
	}
}

func TestAddWell(t *testing.T) {
	isWell(t,
		"instance A U where { }",
		"instance D Int where { }; instance D Char where { }; instance E Char where { }",
		"instance A Char where { p = \\x y -> nobody (Nobody x 1); q = case x of { Q y y -> let { z = z; z = y } in z } }",
		"instance B (W a b c) where { s = s; (==) = r; r = 1 }",
		"instance (A a, B b, A b, A a, E c) => E (W c b a) where { t = t }",
		"instance A b => D (L b) where { }; instance D a => B (L a) where { }",
		// neither is asked: whether those above have an instance, whether the Context is enough, whether methods lack
		"instance E Int where { }",
		"instance E (L a) where { t = r }",
	)
}

func TestClassThatIsNone(t *testing.T) {
	isNoClass(t,
		"@instance Q Int where { }",
		"@instance Q (L a) where { }",
		"@instance L U where { }",
		"@instance U U where { }",
		"@instance N (L a) where { }",
		"@instance AA U where { }",
		"@instance A' U where { }",
		"instance A U where { }; @instance Q Int where { }",
		"@instance Q Int where { }; instance A U where { }",
		"class Q a where { }; @instance Q Int where { }",
	)
}

func TestTypeThatIsNone(t *testing.T) {
	isNobodys(t,
		"@instance A Q where { }",
		"@instance A (Q a) where { }",
		"@instance A (Q a a) where { }",
		"@instance A N where { }",
		"@instance A (C a) where { }",
		"@instance A W1 where { }",
		"@instance A (W2 a b c) where { }",
		"@instance D A where { }",
		"@instance A A where { }",
		"@instance B (E a) where { }",
		"@instance A (LL a) where { }",
		"@instance A Int' where { }",
		"instance A U where { }; @instance A Q where { }",
		"@instance A Q where { }; instance A U where { }",
		"data Q = Q; @instance A Q where { }",
	)
}

// A function has no instances: not by its sign, with as many variables as it has arguments or others, not even where a type has its name.
func TestFunctionsHaveNone(t *testing.T) {
	named := typesOf(base)
	if err := named.Add(api.Data{Name: "->", Vars: []string{"a", "b"}}); err != nil {
		t.Fatal(err)
	}
	for n := range 4 {
		i := api.Instance{Class: "A", Con: "->", Vars: []string{"a", "b", "c"}[:n], Pos: 7}
		e := known()
		isSaid(t, add(e, i), "7: a name that is nobody's")
		isSaid(t, e.Add(named, classesOf(base), i), "7: a name that is nobody's")
		i.Class = "Q"
		isSaid(t, add(e, i), "7: not a class, or not an instance")
		if tell(e) != tell(known()) {
			t.Error(tell(e))
		}
	}
}

func TestOtherArguments(t *testing.T) {
	isKind(t,
		"@instance A (Char a) where { }",
		"@instance D (Int a) where { }",
		"@instance D (Int a b) where { }",
		"@instance A (U a) where { }",
		"@instance B L where { }",
		"@instance B (L) where { }",
		"@instance B (L a b) where { }",
		"@instance B (L a b c) where { }",
		"@instance A P where { }",
		"@instance A (P a) where { }",
		"@instance A (P a b c) where { }",
		"@instance A W where { }",
		"@instance A (W a) where { }",
		"@instance A (W a b) where { }",
		"@instance A (W a b c d) where { }",
		"instance A U where { }; @instance A P where { }",
		"@instance A P where { }; instance A U where { }",
	)
	isWell(t, "instance A (Char) where { }; instance A (U) where { }", "instance B (L a) where { }; instance A (P b a) where { }; instance A (W c a b) where { }")
}

func TestVariableTwice(t *testing.T) {
	isTwice(t,
		"@instance A (P a a) where { }",
		"@instance A (P a' a') where { }",
		"@instance A (W a a b) where { }",
		"@instance A (W a b a) where { }",
		"@instance A (W b a a) where { }",
		"@instance A (W a a a) where { }",
		"instance A (P a b) where { }; @instance A (W a b a) where { }",
		"@instance A (W a b a) where { }; instance A (P a b) where { }",
	)
	isWell(t, "instance A (P a a') where { }; instance A (W aa a a1) where { }; instance E (W a b c) where { }")
}

// An instance is there from an earlier Add, or from the same one; its variables, its Context and its Binds are nothing to that.
func TestInstanceTwice(t *testing.T) {
	isTwice(t,
		"@instance A Int where { }",
		"@instance A Int where { q = 1 }",
		"@instance A (L a) where { }",
		"@instance (A b, D b) => A (L b) where { p = q }",
		"@instance D (P y x) where { }",
		"@instance B U where { }",
		"instance A U where { }; @instance A U where { }",
		"instance A (P a b) where { q = 1 }; @instance A b => A (P b a) where { p = 1 }",
		"instance A U where { }; instance A Char where { }; instance D U where { }; @instance A Char where { }; instance A U where { }",
		"instance D U where { }; @instance B U where { }; instance D U where { }",
	)
}

// The same type of another class, the same class of another type are others.
func TestInstancesOfOneName(t *testing.T) {
	isWell(t,
		"instance B Int where { }; instance D Int where { }; instance E Int where { }",
		"instance A Char where { }; instance A U where { }; instance A (P a b) where { }; instance A (W a b c) where { }",
		"instance B (L a) where { }; instance D (L a) where { }; instance A (P a b) where { }; instance B (P a b) where { }; instance A U where { }; instance D U where { }",
	)
}

func TestContextsClassThatIsNone(t *testing.T) {
	isNoClass(t,
		"@instance Q a => B (L a) where { }",
		"@instance L a => B (L a) where { }",
		"@instance (Q a) => B (L a) where { }",
		"@instance (Q a, A a) => B (L a) where { }",
		"@instance (A a, Q a) => B (L a) where { }",
		"@instance (A a, B b, Q a, D b) => E (P a b) where { }",
		"@instance Q a => D U where { }",
		"instance A a => B (L a) where { }; @instance Q a => E (L a) where { }",
		"@instance Q a => E (L a) where { }; instance A a => B (L a) where { }",
	)
}

func TestContextsVariableOfNone(t *testing.T) {
	isNobodys(t,
		"@instance A b => B (L a) where { }",
		"@instance A a => B (L a') where { }",
		"@instance A aa => B (L a) where { }",
		"@instance (A a, D b) => B (L a) where { }",
		"@instance (D b, A a) => B (L a) where { }",
		"@instance (A a, A b, A c, A d) => B (W a b c) where { }",
		"@instance A a => D U where { }",
		"@instance A a => A Char where { }",
		"instance A b => E (L b) where { }; @instance A b => B (L a) where { }",
		"@instance A b => B (L a) where { }; instance A b => E (L b) where { }",
		// variables of another instance, and of the type's definition, are none of this one's
		"instance A b => A (P a b) where { }; @instance A b => B (L a) where { }",
		"@instance A a => B (L x) where { }",
	)
}

// withContext is an instance of the type L, which no parser makes where its Context's types are no variables.
func withContext(context ...api.Pred) api.Instance {
	return api.Instance{Class: "B", Con: "L", Vars: []string{"a"}, Context: context, Pos: 8}
}

func TestContextsTypeThatIsNoVariable(t *testing.T) {
	well := api.Pred{Class: "A", Type: types.Var("a")}
	for _, x := range []api.Type{types.Con("Int"), types.Con("a"), types.Con("L", types.Var("a")), types.Con("Q"), types.Con("L"), types.Fun(types.Var("a"), types.Var("a")), {Kind: api.TFun, Name: "a"}, {Kind: api.TAll, Name: "a", Args: []api.Type{types.Var("a")}}, {Kind: api.TAll, Name: "b", Args: []api.Type{types.Var("a")}}, {Name: "a"}, {}} {
		amiss := api.Pred{Class: "A", Type: x}
		for _, context := range [][]api.Pred{{amiss}, {amiss, well}, {well, amiss}, {well, amiss, well}, {amiss, amiss}} {
			e := known()
			isSaid(t, add(e, withContext(context...)), "8: a name that is nobody's")
			none := api.Pred{Class: "Q", Type: types.Var("a")}
			isSaid(t, add(e, withContext(append([]api.Pred{none}, context...)...)), "8: not a class, or not an instance")
			isSaid(t, add(e, withContext(append(context, none)...)), "8: not a class, or not an instance")
			if tell(e) != tell(known()) {
				t.Errorf("%v: %s", context, tell(e))
			}
		}
	}
	isSaid(t, add(known(), withContext(well, well)), "nothing")
}

// Of a Context the classes are looked at ahead of the types, whichever stands first.
func TestTwoInOneContext(t *testing.T) {
	isNoClass(t,
		"@instance (A b, Q a) => B (L a) where { }",
		"@instance (Q a, A b) => B (L a) where { }",
		"@instance Q b => B (L a) where { }",
		"@instance (A b, A c, A a, Q a) => B (L a) where { }",
		"@instance (A b, Q c, D d) => B (L a) where { }",
		"@instance (A b, Q c) => D U where { }",
	)
}

func TestBindsOfOthers(t *testing.T) {
	isNoClass(t,
		"@instance A U where { z = 1 }",
		"@instance A U where { r = 1 }",
		"@instance A U where { q = 1; r = 1 }",
		"@instance A U where { r = 1; q = 1 }",
		"@instance A U where { p = 1; z = 1; q = 1 }",
		"@instance D U where { p = 1 }",
		"@instance D U where { z = z }",
		"@instance A U where { p' = 1 }",
		"@instance A U where { pp = 1 }",
		"@instance A U where { (+) = 1 }",
		"@instance B (L a) where { (/=) = s; (==) = s }",
		// another one's, above it, below it, or neither
		"@instance B (L a) where { p = 1 }",
		"@instance B (L a) where { r = 1; q = 1 }",
		"@instance A U where { t = 1 }",
		"@instance E (L a) where { t = 1; p = 1 }",
		"@instance E (L a) where { r = 1 }",
		"instance A U where { q = 1 }; @instance E U where { q = 1 }",
		"@instance E U where { q = 1 }; instance A U where { q = 1 }",
		"class Q a where { z :: a }; z = z; @instance A U where { z = 1 }",
	)
}

func TestBindsTwice(t *testing.T) {
	isTwice(t,
		"@instance A U where { q = 1; q = 1 }",
		"@instance A U where { q = 1; q = 2 }",
		"@instance A U where { p = 1; q = 1; p = 2 }",
		"@instance A U where { p = 1; q = 1; q = 2 }",
		"@instance A U where { p = 1; q = 1; q = 2; p = 2 }",
		"@instance B Int where { (==) = 1; s = 1; r = 1; (==) = 2 }",
		"instance A U where { p = 1; q = 1 }; @instance B Int where { r = 1; r = 1 }",
		"@instance B Int where { r = 1; r = 1 }; instance A U where { p = 1; q = 1 }",
	)
	isWell(t, "instance A U where { q = 1; p = 2 }; instance A Char where { p = 1; q = 1 }; instance B Int where { s = let { s = s; s = s } in s }")
}

// Of the Binds each name is looked at ahead of whether one stands there twice.
func TestTwoInBinds(t *testing.T) {
	isNoClass(t,
		"@instance A U where { q = 1; q = 1; z = 1 }",
		"@instance A U where { z = 1; q = 1; q = 1 }",
		"@instance A U where { q = 1; r = 1; q = 1 }",
		"@instance A U where { z = 1; z = 1 }",
		"@instance A U where { q = 1; r = 1; r = 1 }",
		"@instance D U where { q = 1; q = 1 }",
	)
}

// The types and the classes are those that are handed in, each time, and no other ones.
func TestTypesAndClassesOfTheCall(t *testing.T) {
	var e insts.Env
	other := "data L = L; data T a b = T; data Q = Q; class A a where { z :: a }; class Q a where { p :: a }"
	for i, x := range []struct {
		types, classes, text, want string
	}{
		{"", "", "instance A Int where { }", "0: not a class, or not an instance"},
		{"", base, "instance A (L a) where { }", "0: a name that is nobody's"},
		{base, "", "instance A (L a) where { }", "0: not a class, or not an instance"},
		{other, base, "instance A (L a) where { }", "0: a type with other arguments"},
		{base, other, "instance A (L a) where { p = 1 }", "0: not a class, or not an instance"},
		{base, other, "instance A (L a) where { z = 1 }", "nothing"},
		{base, base, "instance A (L a) where { p = 1 }", "0: a name twice"},
		{other, base, "instance A L where { p = 1 }", "0: a name twice"},
		{other, other, "instance Q L where { p = 1 }", "nothing"},
		{other, base, "instance A Int where { p = 1 }", "nothing"},
		{base, other, "instance Q a => Q (P a b) where { p = 1 }", "nothing"},
		{base, base, "instance Q a => A (P a b) where { p = 1 }", "0: not a class, or not an instance"},
		{"", base, "instance B Char where { r = 1 }", "nothing"},
	} {
		if err := e.Add(typesOf(x.types), classesOf(x.classes), readInstances(x.text)...); say(err) != x.want {
			t.Errorf("%d: %s; want %s", i, say(err), x.want)
		}
	}
	if l := keys(&e); l != "A:L Q:L A:Int Q:P B:Char " {
		t.Error(l)
	}
}

// An error leaves nothing: what stood well ahead of it in the row may be had again, and what was amiss is not there.
func TestAddAgain(t *testing.T) {
	e := known()
	before := tell(e)
	for _, text := range []string{
		"instance A U where { q = 1 }; instance Q U where { }",
		"instance A U where { }; instance D (L a) where { }; instance A Q where { }",
		"instance D (L a) where { }; instance A P where { }",
		"instance D (L a) where { }; instance A U where { }; instance D (L b) where { }",
		"instance A U where { }; instance A (P a a) where { }",
		"instance A U where { }; instance A Int where { }",
		"instance A U where { }; instance Q a => D (L a) where { }",
		"instance A U where { }; instance A b => D (L a) where { }",
		"instance D (L a) where { }; instance A U where { z = 1 }",
		"instance D (L a) where { }; instance A U where { q = 1; q = 2 }",
	} {
		for range 2 {
			if err := add(e, readInstances(text)...); err == nil {
				t.Error(text)
			}
			if tell(e) != before {
				t.Fatalf("%s: %s; want %s", text, tell(e), before)
			}
		}
	}
	for _, text := range []string{"instance A U where { p = q }; instance A a => D (L a) where { }", "instance D a => A (P a b) where { q = 7 }"} {
		isSaid(t, add(e, readInstances(text)...), "nothing")
	}
	if l := keys(e); l != "A:Int A:L D:P B:U A:U D:L A:P " {
		t.Error(l)
	}
	for text, want := range map[string]string{"instance A U where { }": "0: a name twice", ";instance D (L b) where { }": "1: a name twice", "instance E U where { }; instance A (P b a) where { }": "24: a name twice", "instance E U where { q = 1 }": "0: not a class, or not an instance"} {
		isSaid(t, add(e, readInstances(text)...), want)
	}
}

// One by one, or all at once: what is there is the same.
func TestRowByRow(t *testing.T) {
	text := knownText + "; instance D a => E (L a) where { t = t }; instance A (W a b c) where { p = p; q = q }; instance D Char where { }"
	var e insts.Env
	for _, i := range readInstances(text) {
		isSaid(t, add(&e, i), "nothing")
	}
	if all := with(text); tell(&e) != tell(all) {
		t.Errorf("%s; want %s", tell(&e), tell(all))
	}
}

// Each Env has its own.
func TestEnvsAreApart(t *testing.T) {
	var first, second, third insts.Env
	for i, x := range []struct {
		e    *insts.Env
		text string
		want string
	}{
		{&first, "instance A U where { q = 1 }", "nothing"},
		{&second, "instance A Int where { }; instance D U where { }", "nothing"},
		{&second, "instance A U where { q = 2 }", "nothing"},
		{&first, "instance D U where { }; instance A U where { }", "24: a name twice"},
		{&first, "instance D U where { }", "nothing"},
	} {
		if err := add(x.e, readInstances(x.text)...); say(err) != x.want {
			t.Errorf("%d: %s; want %s", i, say(err), x.want)
		}
	}
	if keys(&first) != "A:U D:U " || keys(&second) != "A:Int D:U A:U " || keys(&third) != "" {
		t.Error(keys(&first), keys(&second), keys(&third))
	}
	for e, n := range map[*insts.Env]int64{&first: 1, &second: 2} {
		if i, is := e.Find("A", "U"); !is || i.Binds[0].Body.N != n {
			t.Error(i, is)
		}
	}
}
