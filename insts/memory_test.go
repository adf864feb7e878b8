package insts_test

import (
	"reflect"
	"slices"
	"testing"

	"paideia/api"
	"paideia/classes"
	"paideia/cons"
	"paideia/insts"
	"paideia/types"
)

// room is what stands behind a list's length: what would be amiss in it, and what would make well what is amiss.
func room(of reflect.Type) []any {
	switch of {
	case reflect.TypeFor[string]():
		return []any{"a", "z"}
	case reflect.TypeFor[api.Type]():
		return []any{types.Con("Q", types.Con("L")), types.Var("a")}
	case reflect.TypeFor[api.Pred]():
		return []any{api.Pred{Class: "Nobody"}, api.Pred{Class: "A", Type: types.Var("a")}}
	case reflect.TypeFor[api.Expr]():
		return []any{api.Expr{Kind: api.EVar, Name: "nobody"}, api.Expr{Kind: api.EVar, Name: "q"}}
	case reflect.TypeFor[api.Alt]():
		return []any{api.Alt{Con: "Nobody"}, api.Alt{Con: "N"}}
	case reflect.TypeFor[api.Bind]():
		return []any{api.Bind{Name: "nobody"}, api.Bind{Name: "q"}}
	case reflect.TypeFor[api.Instance]():
		return []any{api.Instance{Class: "Q", Con: "Q"}, api.Instance{Class: "E", Con: "Char"}}
	}
	panic(of.String())
}

// roomyOf is a copy of a value in which each list has room behind it.
func roomyOf(v reflect.Value) reflect.Value {
	made := reflect.New(v.Type()).Elem()
	switch v.Kind() {
	case reflect.Slice:
		more := room(v.Type().Elem())
		all := reflect.MakeSlice(v.Type(), 0, v.Len()+len(more))
		for i := range v.Len() {
			all = reflect.Append(all, roomyOf(v.Index(i)))
		}
		for _, x := range more {
			all = reflect.Append(all, reflect.ValueOf(x))
		}
		made.Set(all.Slice(0, v.Len()))
	case reflect.Struct:
		for i := range v.NumField() {
			made.Field(i).Set(roomyOf(v.Field(i)))
		}
	default:
		made.Set(v)
	}
	return made
}

func roomy(text string) []api.Instance {
	return roomyOf(reflect.ValueOf(readInstances(text))).Interface().([]api.Instance)
}

// whole is a value in which each list goes to its memory's end, spare room too: a copy.
func whole(v reflect.Value) any {
	switch v.Kind() {
	case reflect.Slice:
		l := make([]any, v.Cap())
		for i := range l {
			l[i] = whole(v.Slice(0, v.Cap()).Index(i))
		}
		return l
	case reflect.Struct:
		l := make([]any, v.NumField())
		for i := range l {
			l[i] = whole(v.Field(i))
		}
		return l
	}
	return v.Interface()
}

func wholeOf(x any) any { return whole(reflect.ValueOf(x)) }

// spoil writes into each list of a value, and into the room behind it, and appends to it.
func spoil(v reflect.Value) {
	switch v.Kind() {
	case reflect.Slice:
		for i := range v.Len() {
			spoil(v.Index(i))
		}
		of := v.Type().Elem()
		spoilt := reflect.ValueOf(room(of)[0])
		for i := range v.Cap() {
			v.Slice(0, v.Cap()).Index(i).Set(spoilt)
		}
		reflect.Append(v, spoilt)
	case reflect.Struct:
		for i := range v.NumField() {
			spoil(v.Field(i))
		}
	}
}

// spoilAny spoils an answer, or what was handed in.
func spoilAny(x any) {
	v := reflect.New(reflect.TypeOf(x)).Elem()
	v.Set(reflect.ValueOf(x))
	spoil(v)
}

const memoryText = "instance (A a, B b, D c) => E (W a b c) where { t = \\x y -> case x y of { N -> t; C z _ -> let { v :: (A a, B (L a)) => a -> L a; v = z; w = 'w' } in v (w + 1) } }; " +
	"instance A U where { p = if p then q else 7; q = f 'c' p }; instance (D b, D a, A a) => B (P a b) where { (==) = r }; instance D (L b) where { }"

// What is handed in stays, and what stands in its room is not seen.
func TestGivenStays(t *testing.T) {
	l := roomy(memoryText)
	before := wholeOf(l)
	e, want := known(), known()
	isSaid(t, add(e, l...), "nothing")
	isSaid(t, add(want, readInstances(memoryText)...), "nothing")
	if tell(e) != tell(want) {
		t.Errorf("%s; want %s", tell(e), tell(want))
	}
	if !reflect.DeepEqual(wholeOf(l), before) {
		t.Error("instances that were handed in were written")
	}
}

func TestGivenStaysBesideErrors(t *testing.T) {
	for text, want := range map[string]string{
		"instance Q Int where { }":                              "0: not a class, or not an instance",
		"instance A U where { q = 1 }; instance A Q where { }":  "30: a name that is nobody's",
		"instance A P where { q = 1 }":                          "0: a type with other arguments",
		"instance A (P b) where { }":                            "0: a type with other arguments",
		"instance (A a, D a) => A (P a a) where { }":            "0: a name twice",
		"instance A U where { q = 1 }; instance A U where { }":  "30: a name twice",
		"instance D a => A (L a) where { p = q }":               "0: a name twice",
		"instance (A a, Q a, D a) => B (L a) where { }":         "0: not a class, or not an instance",
		"instance (A a, A z) => B (L a) where { r = 1 }":        "0: a name that is nobody's",
		"instance B Int where { r = 1; q = 1; s = \\x -> x 1 }": "0: not a class, or not an instance",
		"instance B Int where { r = \\x -> x; r = r }":          "0: a name twice",
	} {
		l := roomy(text)
		before := wholeOf(l)
		e := known()
		was := tell(e)
		for range 2 {
			if err := add(e, l...); say(err) != want {
				t.Errorf("%s: %s; want %s", text, say(err), want)
			}
		}
		if !reflect.DeepEqual(wholeOf(l), before) {
			t.Errorf("%s: what was handed in was written", text)
		}
		if tell(e) != was {
			t.Errorf("%s: something was added", text)
		}
	}
}

// What is handed in is not kept: whatever is written into it behind the call, what is told stays.
func TestGivenIsNotKept(t *testing.T) {
	e := known()
	l := roomy(memoryText)
	isSaid(t, add(e, l...), "nothing")
	before, all, want := tell(e), e.All(), slices.Collect(e.All())
	spoilAny(l)
	if tell(e) != before {
		t.Errorf("%s; want %s", tell(e), before)
	}
	areInstances(t, slices.Collect(all), want)
	isSaid(t, add(e, readInstances("instance E Char where { }; instance A Char where { }")...), "nothing")
}

// The types and the classes that are handed in stay, and are not kept: what is there of them later is nothing to the instances.
func TestTypesAndClassesAreNotKept(t *testing.T) {
	c, k := typesOf(base), classesOf(base)
	datas, all := c.Datas(), k.Classes()
	var e insts.Env
	isSaid(t, e.Add(c, k, readInstances(knownText+";"+memoryText)...), "nothing")
	for _, amiss := range []string{"instance Q U where { }", "instance D Q where { }", "instance D L where { }", "instance D U where { q = 1 }"} {
		if err := e.Add(c, k, readInstances(amiss)...); err == nil {
			t.Error(amiss)
		}
	}
	if !areSame(c.Datas(), datas) || !areSame(k.Classes(), all) {
		t.Error(c.Datas(), k.Classes())
	}
	was := tell(&e)
	if c.Add(api.Data{Name: "Q"}) != nil || k.Add(c, api.Class{Name: "Q"}) != nil {
		t.Error("nothing was added")
	}
	if tell(&e) != was {
		t.Error(tell(&e))
	}
	*c, *k = cons.Env{}, classes.Env{}
	if tell(&e) != was {
		t.Error(tell(&e))
	}
	isSaid(t, e.Add(c, k, readInstances("instance D U where { }")...), "0: not a class, or not an instance")
}

// answers are all that is handed out with lists.
func answers(e *insts.Env) (l []any) {
	for _, class := range []string{"A", "B", "D", "E", "Q"} {
		for _, con := range []string{"Int", "U", "L", "P", "W"} {
			i, _ := e.Find(class, con)
			l = append(l, i)
		}
	}
	all := e.All()
	for range 2 {
		for i := range all {
			l = append(l, i)
		}
	}
	for i := range e.All() {
		l = append(l, i)
	}
	return l
}

// wholes are answers to the ends of their lists' memory.
func wholes(l []any) (all []any) {
	for _, x := range l {
		all = append(all, wholeOf(x))
	}
	return all
}

func withMemory(t *testing.T) *insts.Env {
	t.Helper()
	e := known()
	isSaid(t, add(e, readInstances(memoryText)...), "nothing")
	return e
}

// Whatever is written into an answer, or appended to a list of it, no other answer shows it, nor does the Env.
func TestAnswersAreApart(t *testing.T) {
	e := withMemory(t)
	before := tell(e)
	again, got := answers(e), answers(e)
	wantAgain, want := wholes(again), wholes(got)
	for i := range got {
		spoilAny(got[i])
		for j := i + 1; j < len(got); j++ {
			if !reflect.DeepEqual(wholeOf(got[j]), want[j]) {
				t.Errorf("by answer %d answer %d is %v", i, j, got[j])
			}
		}
		if tell(e) != before {
			t.Fatalf("by answer %d: %s; want %s", i, tell(e), before)
		}
	}
	if !reflect.DeepEqual(wholes(again), wantAgain) {
		t.Error("an answer shows what was written into another one")
	}
}

// What All tells stays, whatever is written into what it has told, while it is ranged over too.
func TestAllIsApart(t *testing.T) {
	e := withMemory(t)
	want := slices.Collect(e.All())
	all := e.All()
	for range 3 {
		n := 0
		for i := range all {
			areInstances(t, []api.Instance{i}, want[n:n+1])
			spoilAny(i)
			n++
		}
		if n != len(want) {
			t.Error(n)
		}
	}
}

// cells adds where each list of a value has its memory, to the ends; and counts what stands in two lists.
func cells(v reflect.Value, seen map[uintptr]bool) (shared int) {
	switch v.Kind() {
	case reflect.Slice:
		for i := range v.Cap() {
			at := v.Slice(0, v.Cap()).Index(i).Addr().Pointer()
			if seen[at] {
				shared++
			}
			seen[at] = true
		}
		for i := range v.Len() {
			shared += cells(v.Index(i), seen)
		}
	case reflect.Struct:
		for i := range v.NumField() {
			shared += cells(v.Field(i), seen)
		}
	}
	return shared
}

// No two lists share memory, of one answer or of two, or of what was handed in.
func TestListsAreApart(t *testing.T) {
	e, l := known(), roomy(memoryText)
	isSaid(t, add(e, l...), "nothing")
	seen := map[uintptr]bool{}
	for i, x := range append(append([]any{l}, answers(e)...), answers(e)...) {
		if n := cells(reflect.ValueOf(x), seen); n > 0 {
			t.Errorf("answer %d: %d shared", i, n)
		}
	}
}

// Lists that are one piece of memory, one behind the other, or the same one.
func TestListsInOnePiece(t *testing.T) {
	vars := []string{"a", "b", "c", "a"}
	context := []api.Pred{{Class: "A", Type: types.Var("a")}, {Class: "B", Type: types.Var("b")}, {Class: "Q", Type: types.Var("c")}}
	parts := []api.Expr{{Kind: api.EVar, Name: "f"}, {Kind: api.EInt, N: 7}}
	binds := []api.Bind{{Name: "p", Body: api.Expr{Kind: api.EApp, L: parts}}, {Name: "q", Body: api.Expr{Kind: api.ELam, Name: "x", L: parts[1:]}}, {Name: "r"}, {Name: "z"}}
	l := []api.Instance{{Class: "A", Con: "P", Vars: vars[:2], Context: context[:2], Binds: binds[:2]}, {Class: "B", Con: "P", Vars: vars[1:3], Context: context[1:2], Binds: binds[2:3]}, {Class: "A", Con: "W", Vars: vars[:3], Context: context[:0], Binds: binds[1:2]}, {Class: "D", Con: "W", Vars: vars[1:], Context: context, Pos: 5}}
	before := wholeOf(l)
	e := known()
	isSaid(t, add(e, l...), "5: not a class, or not an instance")
	isSaid(t, add(e, l[:3]...), "nothing")
	areInstances(t, slices.Collect(e.All())[4:], l[:3])
	if i, _ := e.Find("B", "P"); !slices.Equal(i.Vars, []string{"b", "c"}) || len(i.Context) != 1 || i.Context[0].Class != "B" || i.Binds[0].Name != "r" {
		t.Error(i)
	}
	if !reflect.DeepEqual(wholeOf(l), before) {
		t.Error("what was handed in was written")
	}
}

// What was handed out may be handed in: to another Env, and, with other names, to the same one.
func TestAnswersHandedIn(t *testing.T) {
	e := withMemory(t)
	var same insts.Env
	isSaid(t, add(&same, slices.Collect(e.All())...), "nothing")
	if tell(&same) != tell(e) {
		t.Error(tell(&same))
	}
	i, _ := e.Find("A", "U")
	i.Con, i.Binds[0].Name, i.Binds[1].Name = "Char", "q", "p"
	isSaid(t, add(e, i), "nothing")
	was, _ := e.Find("A", "U")
	is, _ := e.Find("A", "Char")
	if was.Binds[0].Name != "p" || is.Binds[0].Name != "q" {
		t.Error(was, is)
	}
}

// Each error is another one: whoever writes into it changes no other answer.
func TestErrorsAreApart(t *testing.T) {
	for _, text := range []string{"instance Q U where { }", "instance A Q where { }", "instance A L where { }", "instance A (P a a) where { }", "instance A Int where { }", "instance Q a => B (L a) where { }", "instance A b => B (L a) where { }", "instance A U where { z = 1 }", "instance A U where { q = 1; q = 1 }"} {
		e := known()
		first, second := add(e, readInstances(text)...), add(e, readInstances(text)...)
		want := say(second)
		if say(first) != want || first == second {
			t.Errorf("%s: %s; then %s", text, say(first), want)
		}
		*first.(*api.At) = api.At{Pos: -1, Err: api.ErrLex}
		if say(second) != want || say(add(e, readInstances(text)...)) != want {
			t.Errorf("%s: an error hangs on another one", text)
		}
	}
}

// An answer hangs on nothing but what was added.
func TestAsOften(t *testing.T) {
	var first string
	for range 20 {
		e := known()
		for range 3 {
			isSaid(t, add(e, readInstances("instance A U where { }; instance A (P a b) where { }; instance (Q a, A b) => A (W a b b) where { }")...), "54: a name twice")
			for i := range e.All() {
				spoilAny(i)
			}
		}
		isSaid(t, add(e, readInstances(memoryText)...), "nothing")
		text := tell(e)
		if first == "" {
			first = text
		}
		if text != first || tell(e) != first {
			t.Fatalf("%s; then %s", first, text)
		}
	}
}
