package unify_test

import (
	"strconv"
	"testing"

	"paideia/api"
	"paideia/subst"
	"paideia/types"
	"paideia/unify"
)

// Each call here ends, and soon: none takes steps as there are parts in types that are written out, or for each variable as many as there are of all.

func numbered(name string, n int) api.Type { return tvar(name + strconv.Itoa(n)) }

// fails asks for an error of many pairs.
func fails(t *testing.T, want error, l ...pair) {
	t.Helper()
	if s, err := unify.All(l...); err != want || s.Len() != 0 {
		t.Errorf("Len %d, %v; want %v", s.Len(), err, want)
	}
}

// finds asks for so many types of two great types, and that they make them one.
func finds(t *testing.T, a, b api.Type, most int) {
	t.Helper()
	s, err := unify.Unify(a, b)
	if err != nil || s.Len() != most || !types.Same(s.Apply(a), s.Apply(b)) {
		t.Errorf("Len %d, %v; want %d", s.Len(), err, most)
	}
}

// then is pairs with one more.
func then(l []pair, a, b api.Type) []pair { return append(l[:len(l):len(l)], pair{a, b}) }

func clash(l []pair) []pair { return then(l, tcon("I"), tcon("J")) }

// allAre asks that each of so many numbered variables is one type.
func allAre(t *testing.T, s subst.Subst, err error, from, to int, want api.Type) {
	t.Helper()
	if err != nil || s.Len() != to-from {
		t.Fatal(s.Len(), err)
	}
	for i := from; i < to; i++ {
		if x, found := s.Get("v" + strconv.Itoa(i)); !found || !types.Same(x, want) {
			t.Fatalf("%d: %+v", i, x)
		}
	}
}

func TestLongRows(t *testing.T) {
	const many = 1 << 16
	var up, down, star []pair
	for i := range many {
		up = append(up, pair{numbered("v", i), numbered("v", i+1)})
		down = append(down, pair{numbered("v", many-i-1), numbered("v", many-i)})
		star = append(star, pair{numbered("v", 0), numbered("v", i+1)})
	}
	for _, l := range [][]pair{up, down, star} {
		s, err := unify.All(l...)
		allAre(t, s, err, 0, many, numbered("v", many))
		s, err = unify.All(then(l, tcon("T"), numbered("v", 7))...)
		allAre(t, s, err, 0, many+1, tcon("T"))
		fails(t, api.ErrOccur, clash(then(l, numbered("v", 7), tcon("L", numbered("v", 8))))...)
		fails(t, api.ErrType, clash(then(l, numbered("v", 9), numbered("v", 0)))...)
	}
}

// Many pairs of few variables, beside many parts that they have nothing to do with.
func TestOverAndOver(t *testing.T) {
	const many = 1 << 18
	l := []pair{{tvar("x"), wide(func(i int) api.Type { return tcon("U", numbered("v", i)) })}}
	for range many {
		l = append(l, pair{tvar("a"), tvar("b")}, pair{tvar("b"), tvar("a")})
	}
	s, err := unify.All(l...)
	if x, found := s.Get("a"); err != nil || s.Len() != 2 || !found || !types.Same(x, tvar("b")) {
		t.Error(s.Len(), err)
	}
	fails(t, api.ErrType, clash(l)...)
	fails(t, api.ErrOccur, clash(then(l, tvar("a"), tcon("T", tvar("b"))))...)
}

// wide is a constructor of many arguments.
func wide(of func(i int) api.Type) api.Type {
	var args []api.Type
	for i := range 1 << 16 {
		args = append(args, of(i))
	}
	return tcon("T", args...)
}

func TestWideTypes(t *testing.T) {
	row := wide(func(i int) api.Type { return numbered("v", i) })
	next := wide(func(i int) api.Type { return numbered("v", i+1) })
	s, err := unify.Unify(row, next)
	allAre(t, s, err, 0, 1<<16, numbered("v", 1<<16))
	s, err = unify.Unify(next, row)
	allAre(t, s, err, 1, 1<<16+1, numbered("v", 0))
	s, err = unify.Unify(row, wide(func(int) api.Type { return read("U -> W") }))
	allAre(t, s, err, 0, 1<<16, read("U -> W"))
	fails(t, api.ErrType, pair{row, tcon("T", row.Args[1:]...)})
	fails(t, api.ErrOccur, pair{tcon("P", row, numbered("v", 3)), tcon("P", next, row)})
	finds(t, tcon("P", row, tvar("w")), tcon("P", next, row), 1<<16+1)
}

// deep is types of the deepest that the document speaks of.
func deep(end api.Type) (l []api.Type) {
	right, left, in := end, end, end
	for range 1<<16 - 4 {
		right, left, in = tfun(tvar("b"), right), tfun(left, tvar("b")), tcon("T", in)
	}
	return []api.Type{right, left, in}
}

func TestDeepTypes(t *testing.T) {
	as, cs, is, js := deep(tvar("a")), deep(tvar("c")), deep(tcon("I")), deep(tcon("J"))
	for i, x := range as {
		finds(t, x, cs[i], 1)
		finds(t, x, is[i], 1)
		finds(t, is[i], x, 1)
		finds(t, x, x, 0)
		finds(t, tvar("d"), x, 1)
		fails(t, api.ErrType, pair{is[i], js[i]})
		fails(t, api.ErrOccur, pair{tvar("a"), x})
		fails(t, api.ErrOccur, pair{x, tvar("a")})
	}
	fails(t, api.ErrOccur, pair{as[2], as[2].Args[0]})
	fails(t, api.ErrOccur, pair{as[2].Args[0], as[2]})
}

// doubled are variables each of which is two of the one ahead: of the last one there are more parts than can be written.
func doubled(name string, many int) (l []pair) {
	for i := range many {
		l = append(l, pair{numbered(name, i+1), tcon("P", numbered(name, i), numbered(name, i))})
	}
	return l
}

func TestMoreThanCanBeWritten(t *testing.T) {
	const many = 2000
	l := append(doubled("v", many), doubled("w", many)...)
	last, other := numbered("v", many), numbered("w", many)
	fails(t, api.ErrType, clash(l)...)
	fails(t, api.ErrType, clash(then(l, last, other))...)
	fails(t, api.ErrType, clash(then(then(l, last, other), numbered("v", 7), numbered("w", 7)))...)
	fails(t, api.ErrType, clash(then(l, last, numbered("w", many-1)))...)
	fails(t, api.ErrOccur, clash(then(then(l, last, other), last, numbered("w", many-1)))...)
	fails(t, api.ErrOccur, clash(then(then(l, last, other), numbered("v", 0), last))...)
	fails(t, api.ErrOccur, clash(then(then(l, last, other), numbered("w", 7), numbered("v", 8)))...)
	fails(t, api.ErrType, then(then(then(l, numbered("v", 0), tcon("I")), numbered("w", 0), tcon("J")), last, other)...)
	s, err := unify.All(append(doubled("v", 12), doubled("w", 12)...)...)
	if x, found := s.Get("v12"); err != nil || !found || types.Size(x) != 1<<13-1 || s.Len() != 24 {
		t.Error(types.Size(x), err)
	}
	s, err = unify.All(then(append(doubled("v", 12), doubled("w", 12)...), numbered("v", 12), numbered("w", 12))...)
	if x, found := s.Get("v12"); err != nil || !found || types.Size(x) != 1<<13-1 || s.Len() != 25 || !types.Has(x, "w0") {
		t.Error(types.Size(x), err)
	}
}

// chained are variables each of which has the one ahead in it: what is found is deeper than what was handed in.
func chained(name string, many int) (up, down []pair) {
	for i := range many {
		up = append(up, pair{numbered(name, i+1), tcon("L", numbered(name, i))})
		down = append(down, pair{numbered(name, many-i), tcon("L", numbered(name, many-i-1))})
	}
	return up, down
}

func TestDeeperThanHandedIn(t *testing.T) {
	const many = 1 << 17
	vUp, vDown := chained("v", many)
	wUp, wDown := chained("w", many)
	last, other := numbered("v", many), numbered("w", many)
	for _, l := range [][]pair{append(vUp, wUp...), append(vDown, wDown...)} {
		fails(t, api.ErrType, clash(l)...)
		fails(t, api.ErrType, clash(then(l, last, other))...)
		fails(t, api.ErrOccur, clash(then(l, numbered("v", 0), last))...)
		fails(t, api.ErrOccur, then(then(l, last, other), numbered("v", 1), numbered("w", 0))...)
	}
	s, err := unify.All(vUp[:300]...)
	if x, found := s.Get("v300"); err != nil || !found || types.Size(x) != 301 {
		t.Error(types.Size(x), err)
	}
}

// Two rounds of lengths that have no divisor in common: to lay one on the other goes round both many times.
func TestLongRounds(t *testing.T) {
	const many = 1 << 10
	v, _ := chained("v", many)
	w, _ := chained("w", many-1)
	l := then(append(v, w...), numbered("v", 0), numbered("v", many))
	fails(t, api.ErrOccur, clash(l)...)
	l = then(l, numbered("w", 0), numbered("w", many-1))
	fails(t, api.ErrOccur, clash(then(l, numbered("v", 0), numbered("w", 0)))...)
	fails(t, api.ErrOccur, then(l, numbered("w", 1), numbered("v", 5))...)
}
