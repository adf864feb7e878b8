package scope_test

import (
	"reflect"
	"slices"
	"strings"
	"testing"

	"paideia/api"
	"paideia/scope"
)

// roomy is a list with room behind it, in which something stands.
func roomy[T any](l []T, more ...T) []T {
	room := append(make([]T, 0, len(l)+len(more)), l...)
	return append(room, more...)[:len(l)]
}

// roomyEach is roomy of a list of which each is made roomy.
func roomyEach[T any](l []T, each func(T) T, more ...T) []T {
	made := make([]T, len(l))
	for i, x := range l {
		made[i] = each(x)
	}
	return roomy(made, more...)
}

func evar(name string) api.Expr { return api.Expr{Kind: api.EVar, Name: name, Pos: 7777} }

func roomyExpr(e api.Expr) api.Expr {
	e.L = roomyEach(e.L, roomyExpr, evar("room"), api.Expr{Kind: api.ECon, Name: "Room"})
	e.Alts = roomyEach(e.Alts, roomyAlt, api.Alt{Con: "Room", Body: evar("room")})
	e.Binds = roomyEach(e.Binds, roomyBind, api.Bind{Name: "x", Body: evar("room")}, api.Bind{Name: "x", Body: evar("room")})
	return e
}

func roomyAlt(a api.Alt) api.Alt {
	a.Vars, a.Body = roomy(a.Vars, "room", "x", "y", "room"), roomyExpr(a.Body)
	return a
}

func roomyBind(b api.Bind) api.Bind {
	b.Body = roomyExpr(b.Body)
	return b
}

func roomyData(d api.Data) api.Data {
	d.Vars, d.Cons, d.Deriving = roomy(d.Vars, "a", "a"), roomy(d.Cons, api.Con{Name: "Known"}, api.Con{Name: "Known"}), roomy(d.Deriving, "Eq")
	return d
}

func roomyClass(c api.Class) api.Class {
	c.Supers, c.Methods = roomy(c.Supers, "C"), roomy(c.Methods, api.Method{Name: "known"}, api.Method{Name: "known"})
	c.Defaults = roomyEach(c.Defaults, roomyBind, api.Bind{Name: "m", Body: evar("room")}, api.Bind{Name: "m"})
	return c
}

func roomyInstance(i api.Instance) api.Instance {
	i.Vars, i.Context = roomy(i.Vars, "a"), roomy(i.Context, api.Pred{Class: "Eq"})
	i.Binds = roomyEach(i.Binds, roomyBind, api.Bind{Name: "m", Body: evar("room")}, api.Bind{Name: "m"})
	return i
}

// roomyProgram is a program of which each list has room, in which stands what would be amiss.
func roomyProgram(p api.Program) api.Program {
	return api.Program{
		Datas:     roomyEach(p.Datas, roomyData, api.Data{Name: "T"}, api.Data{Name: "T"}),
		Classes:   roomyEach(p.Classes, roomyClass, api.Class{Name: "C"}, api.Class{Name: "C"}),
		Instances: roomyEach(p.Instances, roomyInstance, api.Instance{Binds: []api.Bind{{Body: evar("room")}}}),
		Binds:     roomyEach(p.Binds, roomyBind, api.Bind{Name: "known", Body: evar("room")}, api.Bind{Name: "known"}),
	}
}

// whole is a value in which each list goes to its memory's end, spare room too: a copy.
func whole(v reflect.Value) any {
	switch v.Kind() {
	case reflect.Slice:
		l := make([]any, v.Cap())
		for i := range l {
			l[i] = whole(v.Slice(0, v.Cap()).Index(i))
		}
		return l
	case reflect.Struct:
		l := make([]any, v.NumField())
		for i := range l {
			l[i] = whole(v.Field(i))
		}
		return l
	}
	return v.Interface()
}

func wholeOf(x ...any) any { return whole(reflect.ValueOf(x)) }

const memoryExpr = "let { x = y (\\z -> z w); v = case C of { D x _ -> x y; x -> x; _ -> (u) } } in case x of { C y z -> y t; y -> v y s; _ -> x r }"

const memoryProgram = "data T a b = A a b | B; data U = D; class C a where { m :: a; n :: b; m = x; n = \\y -> y }; class D a where { (*) :: a };" +
	"instance C (T a b) where { m = x; n = let { x = y; y = x } in x }; x = let { y = A; z = case y of { A y _ -> y; B -> m } } in z; f x y = known x y"

func TestGivenStays(t *testing.T) {
	e := roomyExpr(readExpr(memoryExpr))
	before := wholeOf(e)
	areNames(t, scope.Free(e), "y", "w", "u", "t", "s", "r")
	if !reflect.DeepEqual(wholeOf(e), before) {
		t.Error("Free wrote into what was handed in")
	}
	p, vars, cons := roomyProgram(readProgram(memoryProgram)), roomy(knownVars(), "x", "m"), roomy(knownCons(), "A")
	before = wholeOf(p, vars, cons)
	if err := scope.Check(p, vars, cons); err != nil {
		t.Error(say(err))
	}
	gotVars, gotCons := scope.Names(p)
	areNames(t, gotVars, "m", "n", "*", "x", "f")
	areNames(t, gotCons, "A", "B", "D")
	if !reflect.DeepEqual(wholeOf(p, vars, cons), before) {
		t.Error("what was handed in was written")
	}
}

// With each thing amiss, too, nothing is written, and what stands in the room is not seen.
func TestGivenStaysBesideErrors(t *testing.T) {
	for _, a := range eachAmiss() {
		text := "data R = R; " + a.text + "; class R a where { r :: a }; instance R R where { r = R }; r' = r"
		checkFault(t, text, a.err)
		p := readProgram(strings.Replace(text, "@", "", 1))
		plain := scope.Check(p, knownVars(), knownCons())
		p = roomyProgram(p)
		vars, cons := roomy(knownVars(), "r"), roomy(knownCons(), "R")
		before := wholeOf(p, vars, cons)
		if err := scope.Check(p, vars, cons); say(err) != say(plain) {
			t.Errorf("%s: %s; want %s", text, say(err), say(plain))
		}
		if !reflect.DeepEqual(wholeOf(p, vars, cons), before) {
			t.Errorf("%s: what was handed in was written", text)
		}
	}
}

// fill writes into a list, and into the room behind it.
func fill(l []string) {
	room := l[:cap(l)]
	for i := range room {
		room[i] = "spoilt"
	}
}

// What is written into an answer no other one shows, nor what was handed in.
func TestAnswersAreApart(t *testing.T) {
	e, p := roomyExpr(readExpr(memoryExpr)), roomyProgram(readProgram(memoryProgram))
	before := wholeOf(e, p)
	free := scope.Free(e)
	vars, cons := scope.Names(p)
	again := scope.Free(e)
	moreVars, moreCons := scope.Names(p)
	want := []string{"y", "w", "u", "t", "s", "r"}
	for i, l := range [][]string{free, vars, cons} {
		fill(l)
		if i == 0 {
			areNames(t, vars, "m", "n", "*", "x", "f")
		}
		if i <= 1 {
			areNames(t, cons, "A", "B", "D")
		}
		areNames(t, again, want...)
		areNames(t, moreVars, "m", "n", "*", "x", "f")
		areNames(t, moreCons, "A", "B", "D")
	}
	areNames(t, scope.Free(e), want...)
	vars, cons = scope.Names(p)
	areNames(t, vars, "m", "n", "*", "x", "f")
	areNames(t, cons, "A", "B", "D")
	if err := scope.Check(p, knownVars(), knownCons()); err != nil {
		t.Error(say(err))
	}
	if !reflect.DeepEqual(wholeOf(e, p), before) {
		t.Error("an answer is what was handed in")
	}
}

// Each error is another one: whoever writes into it changes no other answer.
func TestErrorsAreApart(t *testing.T) {
	for _, text := range []string{"x = y", "x = Y", "x = 1; x = 2", "data T = A | A", "class C a where { known :: a }", "x = case 1 of { Known a a -> 1 }"} {
		p := readProgram(text)
		first, second := scope.Check(p, knownVars(), knownCons()), scope.Check(p, knownVars(), knownCons())
		want := say(second)
		if say(first) != want || first == second {
			t.Errorf("%s: %s; then %s", text, say(first), want)
		}
		*first.(*api.At) = api.At{Pos: -1, Err: api.ErrLex}
		if say(second) != want || say(scope.Check(p, knownVars(), knownCons())) != want {
			t.Errorf("%s: an error hangs on another one", text)
		}
	}
}

// What is handed in is not kept: an answer stays what it was, and a later call asks of what is there then.
func TestGivenIsNotKept(t *testing.T) {
	e, p := readExpr("f x"), readProgram("x = y A; data T = A; class C a where { y :: a }")
	free := scope.Free(e)
	vars, cons := scope.Names(p)
	if err := scope.Check(p, nil, nil); err != nil {
		t.Error(say(err))
	}
	e.L[0].Name, p.Binds[0].Name, p.Datas[0].Cons[0].Name, p.Classes[0].Methods[0].Name = "g", "z", "B", "v"
	areNames(t, free, "f", "x")
	areNames(t, vars, "y", "x")
	areNames(t, cons, "A")
	areNames(t, scope.Free(e), "g", "x")
	vars, cons = scope.Names(p)
	areNames(t, vars, "v", "z")
	areNames(t, cons, "B")
	if err := scope.Check(p, nil, nil); say(err) != say(&api.At{Pos: 4, Err: api.ErrScope}) {
		t.Error(say(err))
	}
	if err := scope.Check(p, []string{"y"}, []string{"A"}); err != nil {
		t.Error(say(err))
	}
	if err := scope.Check(p, nil, nil); err == nil {
		t.Error("what was there besides is still there")
	}
}

// Lists that are one piece of memory, one behind the other: each ends at its length.
func TestListsInOnePiece(t *testing.T) {
	names := []string{"x", "y", "z", "A", "B"}
	before := slices.Clone(names)
	p := readProgram("w = x y A")
	for _, c := range []struct {
		vars, cons []string
		want       string
	}{
		{names[:2], names[3:4], "nothing"},
		{names[:1], names[3:], "6: a name that is nobody's"},
		{names[1:3], names[3:], "4: a name that is nobody's"},
		{names[:3], names[4:], "8: a name that is nobody's"},
		{names[:3], names[3:3], "8: a name that is nobody's"},
		{names[:], names[:], "nothing"},
	} {
		if got := say(scope.Check(p, c.vars, c.cons)); got != c.want {
			t.Errorf("%q, %q: %s; want %s", c.vars, c.cons, got, c.want)
		}
	}
	exprs := []api.Expr{evar("a"), evar("b"), evar("c")}
	vars := []string{"a", "b", "c"}
	e := api.Expr{Kind: api.ECase, L: exprs[:1], Alts: []api.Alt{{Con: "C", Vars: vars[:2], Body: api.Expr{Kind: api.EApp, L: exprs[1:3]}}}}
	areNames(t, scope.Free(e), "a", "c")
	if !slices.Equal(names, before) || !slices.Equal(vars, []string{"a", "b", "c"}) {
		t.Error("what was handed in was written")
	}
}

// An answer hangs on nothing that was asked before.
func TestAsOften(t *testing.T) {
	w := readProgram(memoryProgram)
	var first []string
	for range 20 {
		vars, cons := scope.Names(w)
		all := slices.Concat(scope.Free(readExpr(memoryExpr)), vars, cons, []string{say(scope.Check(w, knownVars(), knownCons())), say(scope.Check(w, nil, nil)), say(scope.Check(w, vars, nil)), say(scope.Check(w, nil, cons))})
		if first == nil {
			first = all
		}
		areNames(t, all, first...)
	}
}
