package classes_test

import (
	"reflect"
	"testing"

	"paideia/api"
	"paideia/classes"
	"paideia/cons"
	"paideia/types"
)

// room is what stands behind a list's length: what would be amiss in it, and what would make well what is amiss.
func room(of reflect.Type) []any {
	switch of {
	case reflect.TypeFor[string]():
		return []any{"Nobody", "A"}
	case reflect.TypeFor[api.Type]():
		return []any{types.Con("Q", types.Con("L")), types.Var("a")}
	case reflect.TypeFor[api.Pred]():
		return []any{api.Pred{Class: "Nobody"}, api.Pred{Class: "A", Type: types.Var("a")}}
	case reflect.TypeFor[api.Expr]():
		return []any{api.Expr{Kind: api.EVar, Name: "nobody"}, api.Expr{Kind: api.EVar, Name: "m"}}
	case reflect.TypeFor[api.Alt]():
		return []any{api.Alt{Con: "Nobody"}, api.Alt{Con: "N"}}
	case reflect.TypeFor[api.Bind]():
		return []any{api.Bind{Name: "nobody"}, api.Bind{Name: "m"}}
	case reflect.TypeFor[api.Method]():
		return []any{api.Method{Name: "p"}, api.Method{Name: "n", Type: types.Var("a")}}
	case reflect.TypeFor[api.Class]():
		return []any{api.Class{Name: "A"}, api.Class{Name: "Q", Var: "a"}}
	}
	panic(of.String())
}

// roomyOf is a copy of a value in which each list has room behind it.
func roomyOf(v reflect.Value) reflect.Value {
	made := reflect.New(v.Type()).Elem()
	switch v.Kind() {
	case reflect.Slice:
		more := room(v.Type().Elem())
		all := reflect.MakeSlice(v.Type(), 0, v.Len()+len(more))
		for i := range v.Len() {
			all = reflect.Append(all, roomyOf(v.Index(i)))
		}
		for _, x := range more {
			all = reflect.Append(all, reflect.ValueOf(x))
		}
		made.Set(all.Slice(0, v.Len()))
	case reflect.Struct:
		for i := range v.NumField() {
			made.Field(i).Set(roomyOf(v.Field(i)))
		}
	default:
		made.Set(v)
	}
	return made
}

func roomy(text string) []api.Class {
	return roomyOf(reflect.ValueOf(readClasses(text))).Interface().([]api.Class)
}

// whole is a value in which each list goes to its memory's end, spare room too: a copy.
func whole(v reflect.Value) any {
	switch v.Kind() {
	case reflect.Slice:
		l := make([]any, v.Cap())
		for i := range l {
			l[i] = whole(v.Slice(0, v.Cap()).Index(i))
		}
		return l
	case reflect.Struct:
		l := make([]any, v.NumField())
		for i := range l {
			l[i] = whole(v.Field(i))
		}
		return l
	}
	return v.Interface()
}

func wholeOf(x any) any { return whole(reflect.ValueOf(x)) }

// spoil writes into each list of a value, and into the room behind it, and appends to it.
func spoil(v reflect.Value) {
	switch v.Kind() {
	case reflect.Slice:
		for i := range v.Len() {
			spoil(v.Index(i))
		}
		of := v.Type().Elem()
		spoilt := reflect.ValueOf(room(of)[0])
		for i := range v.Cap() {
			v.Slice(0, v.Cap()).Index(i).Set(spoilt)
		}
		reflect.Append(v, spoilt)
	case reflect.Struct:
		for i := range v.NumField() {
			spoil(v.Field(i))
		}
	}
}

// spoilAny spoils an answer, or what was handed in.
func spoilAny(x any) {
	v := reflect.New(reflect.TypeOf(x)).Elem()
	v.Set(reflect.ValueOf(x))
	spoil(v)
}

const memoryText = "class (A a, B a, Z a) => X a where { m :: L a -> P (b -> a) (L (L c)); n :: a; k :: b -> P a b -> b; n = \\x y -> case x y of { N -> n; C z _ -> let { v :: (A a, B (L a)) => a -> L a; v = z; w = 'w' } in v (w + 1) }; m = if n then m else k }; " +
	"class (D a, A a) => Y a where { o :: a -> a }; class (B a, Y a) => Z a where { }"

// What is handed in stays, and what stands in its room is not seen.
func TestGivenStays(t *testing.T) {
	l := roomy(memoryText)
	before := wholeOf(l)
	e, want := known(), known()
	if err := e.Add(someTypes(), l...); err != nil {
		t.Error(say(err))
	}
	if err := want.Add(someTypes(), readClasses(memoryText)...); err != nil {
		t.Error(say(err))
	}
	if tell(e) != tell(want) {
		t.Errorf("%s; want %s", tell(e), tell(want))
	}
	if !reflect.DeepEqual(wholeOf(l), before) {
		t.Error("classes that were handed in were written")
	}
}

func TestGivenStaysBesideErrors(t *testing.T) {
	for text, want := range map[string]string{
		"class X a where { m :: a }; class X a where { }":                           "28: a name twice",
		"class X a where { m :: a }; class Y a where { n :: a; m :: L a }":          "28: a name twice",
		"class (A a, B a, A a) => X a where { m :: a; m = m }":                      "0: a name twice",
		"class Q a => X a where { m :: L a }":                                       "0: not a class, or not an instance",
		"class Y a => X a where { }; class (A a, X a) => Y a where { m :: a -> a }": "0: not a class, or not an instance",
		"class X a where { m :: a; k :: b -> L b }":                                 "0: not a class, or not an instance",
		"class X a where { m :: a; m = m; n = m }":                                  "0: not a class, or not an instance",
		"class X a where { m :: a; m = \\x -> x; m = m }":                           "0: not a class, or not an instance",
		"class X a where { m :: a -> L T }":                                         "0: a name that is nobody's",
		"class X a where { m :: a -> P (L a) Nobody -> Q }":                         "0: a name that is nobody's",
		"class X a where { m :: a -> P (L a) }":                                     "0: a type with other arguments",
		"class Y a where { }; class X a where { m :: P a (L -> L b) }":              "21: a type with other arguments",
	} {
		l := roomy(text)
		before := wholeOf(l)
		e := known()
		was := tell(e)
		for range 2 {
			if err := e.Add(someTypes(), l...); say(err) != want {
				t.Errorf("%s: %s; want %s", text, say(err), want)
			}
		}
		if !reflect.DeepEqual(wholeOf(l), before) {
			t.Errorf("%s: what was handed in was written", text)
		}
		if tell(e) != was {
			t.Errorf("%s: something was added", text)
		}
	}
}

// What is handed in is not kept: whatever is written into it behind the call, what is told stays.
func TestGivenIsNotKept(t *testing.T) {
	e := known()
	l := roomy(memoryText)
	if err := e.Add(someTypes(), l...); err != nil {
		t.Error(say(err))
	}
	before := tell(e)
	spoilAny(l)
	if tell(e) != before {
		t.Errorf("%s; want %s", tell(e), before)
	}
	if err := e.Add(someTypes(), readClasses("class (Z a, X a) => W a where { m' :: a }; class Q a where { }")...); err != nil {
		t.Error(say(err))
	}
}

// The types that are handed in stay, and are not kept: what is there of them later is nothing to the classes.
func TestTypesAreNotKept(t *testing.T) {
	c := someTypes()
	before := c.Datas()
	e := known()
	if err := e.Add(c, readClasses(memoryText)...); err != nil {
		t.Error(say(err))
	}
	if !areSame(c.Datas(), before) {
		t.Error(c.Datas())
	}
	was := tell(e)
	if err := c.Add(readProgram("data T = T").Datas...); err != nil {
		t.Error(say(err))
	}
	if tell(e) != was {
		t.Error(tell(e))
	}
	*c = cons.Env{}
	if tell(e) != was {
		t.Error(tell(e))
	}
}

// answers are all that is handed out with lists.
func answers(e *classes.Env) (l []any) {
	for _, name := range []string{"A", "B", "D", "X", "Y", "Z", "Q"} {
		k, _ := e.Class(name)
		l = append(l, k, e.Above(name))
	}
	for _, name := range []string{"p", "q", "r", "m", "n", "k", "o", "nobody"} {
		s, _ := e.Scheme(name)
		l = append(l, s)
	}
	return append(l, e.Classes(), e.Classes())
}

// wholes are answers to the ends of their lists' memory.
func wholes(l []any) (all []any) {
	for _, x := range l {
		all = append(all, wholeOf(x))
	}
	return all
}

func withMemory(t *testing.T) *classes.Env {
	t.Helper()
	e := known()
	if err := e.Add(someTypes(), readClasses(memoryText)...); err != nil {
		t.Fatal(say(err))
	}
	return e
}

// Whatever is written into an answer, or appended to a list of it, no other answer shows it, nor does the Env.
func TestAnswersAreApart(t *testing.T) {
	e := withMemory(t)
	before := tell(e)
	again, got := answers(e), answers(e)
	wantAgain, want := wholes(again), wholes(got)
	for i := range got {
		spoilAny(got[i])
		for j := i + 1; j < len(got); j++ {
			if !reflect.DeepEqual(wholeOf(got[j]), want[j]) {
				t.Errorf("by answer %d answer %d is %v", i, j, got[j])
			}
		}
		if tell(e) != before {
			t.Fatalf("by answer %d: %s; want %s", i, tell(e), before)
		}
	}
	if !reflect.DeepEqual(wholes(again), wantAgain) {
		t.Error("an answer shows what was written into another one")
	}
}

// cells adds where each list of a value has its memory, to the ends; and counts what stands in two lists.
func cells(v reflect.Value, seen map[uintptr]bool) (shared int) {
	switch v.Kind() {
	case reflect.Slice:
		for i := range v.Cap() {
			at := v.Slice(0, v.Cap()).Index(i).Addr().Pointer()
			if seen[at] {
				shared++
			}
			seen[at] = true
		}
		for i := range v.Len() {
			shared += cells(v.Index(i), seen)
		}
	case reflect.Struct:
		for i := range v.NumField() {
			shared += cells(v.Field(i), seen)
		}
	}
	return shared
}

// No two lists share memory, of one answer or of two, or of what was handed in.
func TestListsAreApart(t *testing.T) {
	e, l := known(), roomy(memoryText)
	if err := e.Add(someTypes(), l...); err != nil {
		t.Fatal(say(err))
	}
	seen := map[uintptr]bool{}
	for i, x := range append(append([]any{l}, answers(e)...), answers(e)...) {
		if n := cells(reflect.ValueOf(x), seen); n > 0 {
			t.Errorf("answer %d: %d shared", i, n)
		}
	}
}

// Lists that are one piece of memory, one behind the other, or the same one.
func TestListsInOnePiece(t *testing.T) {
	names := []string{"A", "B", "D", "Q"}
	args := []api.Type{types.Var("a"), types.Con("L", types.Var("a")), types.Con("Q")}
	methods := []api.Method{{Name: "m", Type: api.Type{Kind: api.TFun, Args: args[:2]}}, {Name: "n", Type: api.Type{Kind: api.TCon, Name: "L", Args: args[:1]}}, {Name: "k", Type: api.Type{Kind: api.TFun, Args: args[1:]}}}
	parts := []api.Expr{{Kind: api.EVar, Name: "f"}, {Kind: api.EInt, N: 7}}
	binds := []api.Bind{{Name: "m", Body: api.Expr{Kind: api.EApp, L: parts}}, {Name: "n", Body: api.Expr{Kind: api.ELam, Name: "x", L: parts[1:]}}, {Name: "k"}}
	l := []api.Class{{Name: "X", Var: "a", Supers: names[:2], Methods: methods[:1], Defaults: binds[:1]}, {Name: "Y", Var: "a", Supers: names[1:3], Methods: methods[1:2], Defaults: binds[1:2]}, {Name: "Z", Var: "a", Supers: names[:0], Methods: methods[2:], Defaults: binds[2:], Pos: 5}}
	before := wholeOf(l)
	e := known()
	if err := e.Add(someTypes(), l...); say(err) != "5: a name that is nobody's" {
		t.Error(say(err))
	}
	if err := e.Add(someTypes(), l[:2]...); err != nil {
		t.Error(say(err))
	}
	want := with(knownText + "; class (A a, B a) => X a where { m :: a -> L a; m = f 7 }; class (B a, D a) => Y a where { n :: L a; n = \\x -> 7 }")
	if tellPlaceless(e) != tellPlaceless(want) {
		t.Errorf("%s; want %s", tellPlaceless(e), tellPlaceless(want))
	}
	if !reflect.DeepEqual(wholeOf(l), before) {
		t.Error("what was handed in was written")
	}
}

// What was handed out may be handed in: to another Env, and, with other names, to the same one.
func TestAnswersHandedIn(t *testing.T) {
	e := withMemory(t)
	var same classes.Env
	if err := same.Add(someTypes(), e.Classes()...); err != nil || tell(&same) != tell(e) {
		t.Error(say(err), tell(&same))
	}
	k, _ := e.Class("A")
	k.Name, k.Methods[0].Name, k.Methods[1].Name, k.Defaults[0].Name = "W", "==", "<", "<"
	if err := e.Add(someTypes(), k); err != nil {
		t.Error(say(err))
	}
	if s, is := e.Scheme("<"); !is || s.Context[0].Class != "W" {
		t.Error(s, is)
	}
	if s, is := e.Scheme("q"); !is || s.Context[0].Class != "A" {
		t.Error(s, is)
	}
}

// Each error is another one: whoever writes into it changes no other answer.
func TestErrorsAreApart(t *testing.T) {
	for _, text := range []string{"class X a where { }; class A a where { }", "class X a where { m :: a; m :: a }", "class Q a => X a where { }", "class X a => X a where { }", "class X a where { m :: T }", "class X a where { m :: L }", "class X a where { m :: b }", "class X a where { m = m }"} {
		e := known()
		first, second := e.Add(someTypes(), readClasses(text)...), e.Add(someTypes(), readClasses(text)...)
		want := say(second)
		if say(first) != want || first == second {
			t.Errorf("%s: %s; then %s", text, say(first), want)
		}
		*first.(*api.At) = api.At{Pos: -1, Err: api.ErrLex}
		if say(second) != want || say(e.Add(someTypes(), readClasses(text)...)) != want {
			t.Errorf("%s: an error hangs on another one", text)
		}
	}
}

// An answer hangs on nothing but what was added.
func TestAsOften(t *testing.T) {
	var first string
	for range 20 {
		e := known()
		for range 3 {
			if err := e.Add(someTypes(), readClasses("class Y a => X a where { m :: a }; class (Z a, X a) => Y a where { }")...); say(err) != "0: not a class, or not an instance" {
				t.Error(say(err))
			}
			spoilAny(e.Classes())
			spoilAny(e.Above("D"))
		}
		if err := e.Add(someTypes(), readClasses(memoryText)...); err != nil {
			t.Error(say(err))
		}
		text := tell(e)
		if first == "" {
			first = text
		}
		if text != first || tell(e) != first {
			t.Fatalf("%s; then %s", first, text)
		}
	}
}
