package group_test

import (
	"math/rand"
	"slices"
	"strings"
	"testing"

	"paideia/api"
	"paideia/group"
)

// The model knows who leads to whom, by a table of all pairs, and chooses again and again the least one whose group lacks nothing.

// occurs says whether a name stands in an expression and is bound nowhere around.
func occurs(name string, e api.Expr) bool {
	in := func(e api.Expr) bool { return occurs(name, e) }
	switch e.Kind {
	case api.EVar:
		return e.Name == name
	case api.EApp:
		return slices.ContainsFunc(e.L, in)
	case api.ELam:
		return e.Name != name && in(e.L[0])
	case api.ELet:
		binds := slices.ContainsFunc(e.Binds, func(b api.Bind) bool { return b.Name == name })
		return !binds && (in(e.L[0]) || slices.ContainsFunc(e.Binds, func(b api.Bind) bool { return in(b.Body) }))
	case api.ECase:
		return in(e.L[0]) || slices.ContainsFunc(e.Alts, func(a api.Alt) bool { return !slices.Contains(a.Vars, name) && in(a.Body) })
	}
	return false
}

func modelNeeds(l []api.Bind, i int) (needs []int) {
	for j := range l {
		if !l[j].Signed && occurs(l[j].Name, l[i].Body) {
			needs = append(needs, j)
		}
	}
	return needs
}

// leads tells of all pairs whether one needs the other one, by however many.
func leads(n int, needs [][]int) [][]bool {
	to := make([][]bool, n)
	for i := range n {
		to[i] = make([]bool, n)
		for j := range n {
			to[i][j] = i < len(needs) && slices.Contains(needs[i], j)
		}
	}
	for k := range n {
		for i := range n {
			for j := range n {
				to[i][j] = to[i][j] || to[i][k] && to[k][j]
			}
		}
	}
	return to
}

func modelOrder(n int, needs [][]int) (groups [][]int) {
	to := leads(n, needs)
	told := make([]bool, n)
	lacks := func(i int) bool {
		for j := range n {
			if to[i][j] && !to[j][i] && !told[j] {
				return true
			}
		}
		return false
	}
	for len(slices.Concat(groups...)) < n {
		for i := range n {
			if told[i] || lacks(i) {
				continue
			}
			var one []int
			for j := range n {
				if i == j || to[i][j] && to[j][i] {
					one, told[j] = append(one, j), true
				}
			}
			groups = append(groups, one)
			break
		}
	}
	return groups
}

func modelGroups(l []api.Bind) [][]int {
	var needs [][]int
	for i := range l {
		needs = append(needs, modelNeeds(l, i))
	}
	return modelOrder(len(l), needs)
}

// Every way in which up to four can need each other.
func TestOrderOfAllGraphs(t *testing.T) {
	for n := range 5 {
		for bits := range 1 << (n * n) {
			needs := make([][]int, n)
			for k := range n * n {
				if bits>>k&1 == 1 {
					needs[k/n] = append(needs[k/n], k%n)
				}
			}
			if got, want := group.Order(n, needs), modelOrder(n, needs); !sameGroups(got, want) {
				t.Fatalf("%d: %d; want %d", needs, got, want)
			}
		}
	}
}

// needsAtRandom are as many lists as n, or some more or fewer; now and then with a place that is none.
func needsAtRandom(r *rand.Rand, n, most int) [][]int {
	needs := make([][]int, max(0, n+r.Intn(5)-2))
	for i := range needs {
		for range r.Intn(most + 1) {
			needs[i] = append(needs[i], r.Intn(n+2)-1)
		}
	}
	return needs
}

func TestOrderByModel(t *testing.T) {
	r := rand.New(rand.NewSource(10))
	seen := map[int]int{}
	for range 20000 {
		n := 1 + r.Intn(12)
		needs := needsAtRandom(r, n, 1+r.Intn(3))
		got, want := group.Order(n, needs), modelOrder(n, needs)
		if !sameGroups(got, want) {
			t.Fatalf("%d, %d: %d; want %d", n, needs, got, want)
		}
		for _, one := range got {
			seen[min(len(one), 4)]++
		}
	}
	// Were all groups of one, or of all, few others would be asked for.
	for size := 1; size <= 4; size++ {
		if seen[size] < 500 {
			t.Errorf("%d groups of %d", seen[size], size)
		}
	}
}

func TestOrderByModelOfMany(t *testing.T) {
	r := rand.New(rand.NewSource(11))
	for _, most := range []int{0, 1, 2, 3, 5} {
		for range 20 {
			n := 60 + r.Intn(20)
			needs := needsAtRandom(r, n, most)
			if got, want := group.Order(n, needs), modelOrder(n, needs); !sameGroups(got, want) {
				t.Fatalf("%d, %d: %d; want %d", n, needs, got, want)
			}
		}
	}
}

// writer writes definitions at random; of one seed, so that each run makes the same ones.
type writer struct{ *rand.Rand }

func (w writer) one(l ...string) string { return l[w.Intn(len(l))] }

func (w writer) name() string { return w.one("a", "b", "c", "d", "e", "f", "x") }

func (w writer) expr(deep int) string {
	if deep <= 0 {
		return w.one(w.name(), w.name(), "C", "1")
	}
	switch w.Intn(6) {
	case 0:
		return "(\\" + w.name() + " -> " + w.expr(deep-1) + ")"
	case 1:
		return "(let { " + w.name() + " = " + w.expr(deep-1) + "; " + w.name() + " = " + w.expr(deep-1) + " } in " + w.expr(deep-1) + ")"
	case 2:
		return "(case " + w.expr(deep-1) + " of { C " + w.name() + " _ " + w.name() + " -> " + w.expr(deep-1) + "; " + w.one(w.name(), "_") + " -> " + w.expr(deep-1) + " })"
	}
	return "(" + w.expr(deep-1) + " " + w.expr(deep-1) + ")"
}

// definitions have mostly names that are apart; one in three has a signature.
func (w writer) definitions() string {
	var l []string
	for _, i := range w.Perm(6)[:w.Intn(7)] {
		name := string(rune('a' + i))
		l = append(l, name+" = "+w.expr(w.Intn(4)))
		if w.Intn(3) == 0 {
			l = append(l, name+" :: Int")
		}
		if w.Intn(6) == 0 {
			l = append(l, name+" = "+w.expr(w.Intn(3)))
		}
	}
	w.Shuffle(len(l), func(i, j int) { l[i], l[j] = l[j], l[i] })
	return strings.Join(l, "; ")
}

func TestGroupsByModel(t *testing.T) {
	w := writer{rand.New(rand.NewSource(12))}
	rings := 0
	for range 10000 {
		text := w.definitions()
		l := readBinds(text)
		for i := range l {
			if got, want := group.Needs(l, i), modelNeeds(l, i); !slices.Equal(got, want) {
				t.Fatalf("%s, %d: %d; want %d", text, i, got, want)
			}
		}
		got, want := group.Groups(l), modelGroups(l)
		if !sameGroups(got, want) {
			t.Fatalf("%s: %d; want %d", text, got, want)
		}
		if len(got) < len(l) {
			rings++
		}
	}
	if rings < 1000 {
		t.Errorf("%d with a ring", rings)
	}
}
