package insts_test

import (
	"strings"
	"testing"

	"paideia/api"
	"paideia/insts"
	"paideia/types"
)

// fault is one thing that may be amiss with an instance.
type fault struct {
	err error
	put func(i *api.Instance)
}

// faults are all of them, in the order in which they are met.
func faults() []fault {
	return []fault{
		{api.ErrClass, func(i *api.Instance) { i.Class = "Q" }},
		{api.ErrScope, func(i *api.Instance) { i.Con = "Q" }},
		{api.ErrKind, func(i *api.Instance) { i.Vars = append(i.Vars, "c") }},
		{api.ErrTwice, func(i *api.Instance) { i.Vars[1] = i.Vars[0] }},
		{api.ErrClass, func(i *api.Instance) { i.Context[2].Class = "Q" }},
		{api.ErrScope, func(i *api.Instance) { i.Context[0].Type = types.Con("Int") }},
		{api.ErrScope, func(i *api.Instance) { i.Context[1].Type = types.Var("z") }},
		{api.ErrClass, func(i *api.Instance) { i.Binds[2].Name = "q" }},
		{api.ErrTwice, func(i *api.Instance) { i.Binds[1].Name = i.Binds[0].Name }},
	}
}

const orderText = base + "; class J a where { j1 :: a; j2 :: a; j3 :: a }; class K a where { k1 :: a; k2 :: a; k3 :: a }"

// amiss is an instance of J or K for P, well but for some faults: those whose bits are set.
func amiss(class string, some, pos int) api.Instance {
	i := api.Instance{Class: class, Con: "P", Vars: []string{"a", "b"}, Pos: pos}
	for _, above := range []string{"D", "A", "B"} {
		i.Context = append(i.Context, api.Pred{Class: above, Type: types.Var("a")})
	}
	for _, place := range []string{"3", "1", "2"} {
		i.Binds = append(i.Binds, api.Bind{Name: strings.ToLower(class) + place})
	}
	for n, x := range faults() {
		if some>>n&1 == 1 {
			x.put(&i)
		}
	}
	return i
}

// errorOf is what an instance with some faults is told as; one that is well may be there already.
func errorOf(some, pos int, there bool) error {
	for n, x := range faults() {
		if n == 4 && there {
			return &api.At{Pos: pos, Err: api.ErrTwice}
		}
		if some>>n&1 == 1 {
			return &api.At{Pos: pos, Err: x.err}
		}
	}
	return nil
}

// isOrdered adds a row to what an earlier one made, and asks for an error, or for all of it.
func isOrdered(t *testing.T, want error, earlier, row []api.Instance) {
	t.Helper()
	var e insts.Env
	c, k := typesOf(orderText), classesOf(orderText)
	isSaid(t, e.Add(c, k, earlier...), "nothing")
	n := len(earlier)
	if want == nil {
		n += len(row)
	}
	if got := e.Add(c, k, row...); say(got) != say(want) || count(&e) != n {
		t.Errorf("%v, %v: %s, and %d; want %s", earlier, row, say(got), count(&e), say(want))
	}
}

// Whatever is amiss with one instance: the first of the sentence is told; so, too, where one of its class and type is there, from an earlier Add or of the same row.
func TestFaultsOfOneInstance(t *testing.T) {
	for some := range 1 << len(faults()) {
		there, row := []api.Instance{amiss("K", 0, 5)}, []api.Instance{amiss("K", some, 6)}
		isOrdered(t, errorOf(some, 6, false), nil, row)
		isOrdered(t, errorOf(some, 6, some&3 == 0), there, row)
		isOrdered(t, errorOf(some, 6, some&3 == 0), nil, append(there, row...))
		if some != 0 {
			isOrdered(t, errorOf(some, 6, false), nil, append(row, there...))
		}
	}
}

// Of two instances, in either order: all of the first one is looked at ahead of the second.
func TestFaultsOfTwoInstances(t *testing.T) {
	somes := []int{0}
	for n := range faults() {
		somes = append(somes, 1<<n)
	}
	for _, x := range somes {
		for _, y := range somes {
			one, two, well := amiss("J", x, 3), amiss("K", y, 4), api.Instance{Class: "A", Con: "Int", Pos: 5}
			xError, yError := errorOf(x, 3, false), errorOf(y, 4, false)
			isOrdered(t, either(xError, yError), nil, []api.Instance{one, two})
			isOrdered(t, either(yError, xError), nil, []api.Instance{two, one})
			isOrdered(t, either(xError, yError), nil, []api.Instance{well, one, two})
			isOrdered(t, either(yError, xError), []api.Instance{well}, []api.Instance{two, one})
			isOrdered(t, either(xError, yError), nil, []api.Instance{one, well, two})
		}
	}
}

func either(x, y error) error {
	if x != nil {
		return x
	}
	return y
}

// The same as texts.
func TestTwoInOneInstance(t *testing.T) {
	isNoClass(t,
		"@instance Q Q where { }",
		"@instance Q L where { }",
		"@instance Q (P a a) where { }",
		"@instance Q a => Q (L b) where { z = 1; z = 2 }",
		"@instance Q a => B (L b) where { q = 1 }",
		"@instance Q a => B (L a) where { r = 1; r = 1 }",
	)
	isNobodys(t,
		"@instance A (Q a a) where { }",
		"@instance Q a => A (Q b) where { z = 1 }",
		"@instance A b => B (L a) where { z = 1 }",
		"@instance A b => B (L a) where { r = 1; r = 2 }",
	)
	isKind(t,
		"@instance A L where { }",
		"@instance A (L a a) where { }",
		"@instance A (P a a a) where { }",
		"@instance Q a => A (Int a) where { }",
		"@instance A b => B (U a) where { }",
		"@instance B (U a) where { z = 1 }",
		"@instance B (U a) where { r = 1; r = 1 }",
	)
	isTwice(t,
		"@instance Q a => A (P a a) where { }",
		"@instance A b => A (P a a) where { }",
		"@instance A (P a a) where { z = 1 }",
		"@instance Q a => A (L a) where { }",
		"@instance A b => A (L a) where { }",
		"@instance A Int where { z = 1 }",
		"@instance A Int where { r = 1; r = 1 }",
	)
}

func TestTwoInTwoInstances(t *testing.T) {
	isNoClass(t, "@instance A U where { z = 1 }; instance A Q where { }", "instance A U where { }; @instance Q a => B (L a) where { }; instance A U where { }", "@instance A U where { r = r }; instance A U where { }")
	isNobodys(t, "@instance A b => B (L a) where { }; instance Q U where { }", "@instance A Q where { }; instance A Q where { }")
	isKind(t, "@instance A P where { }; instance Q U where { }", "@instance A P where { }; instance A P where { }")
	isTwice(t, "@instance A U where { q = 1; q = 1 }; instance Q U where { }", "instance A U where { }; @instance A U where { z = 1 }; instance Q U where { }", "@instance A (P a a) where { }; instance A P where { }")
}

// One that is amiss is not there for those behind it, since nothing is told of those.
func TestAmissIsNotThere(t *testing.T) {
	for _, text := range []string{"instance A Q where { }; instance A U where { }", "instance A U where { z = 1 }; instance D U where { }", "instance A U where { q = 1; q = 2 }; instance A U where { }"} {
		e := known()
		if err := add(e, readInstances(text)...); err == nil {
			t.Error(text)
		}
		isSaid(t, add(e, readInstances("instance A U where { }; instance D U where { }")...), "nothing")
	}
}
