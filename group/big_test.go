package group_test

import (
	"slices"
	"strconv"
	"testing"

	"paideia/api"
	"paideia/group"
)

// Each call here ends, and soon: none goes through all for each one, none goes twice where it was, none is nested as deep as a row is long.

const long = 1 << 20

// single asks for groups of one each, at gives which one.
func single(t *testing.T, got [][]int, n int, at func(i int) int) {
	t.Helper()
	if len(got) != n {
		t.Fatalf("%d groups; want %d", len(got), n)
	}
	for i, one := range got {
		if len(one) != 1 || one[0] != at(i) {
			t.Fatalf("%d: %d of them; want %d", i, len(one), at(i))
		}
	}
}

// together asks for one group of all.
func together(t *testing.T, got [][]int, n int) {
	t.Helper()
	if len(got) != 1 || len(got[0]) != n {
		t.Fatalf("%d groups; want one", len(got))
	}
	for i, one := range got[0] {
		if one != i {
			t.Fatalf("%d: %d", i, one)
		}
	}
}

func itself(i int) int { return i }

// table is the needs of many, each list made of its place.
func table(n int, of func(i int) []int) [][]int {
	needs := make([][]int, n)
	for i := range needs {
		needs[i] = of(i)
	}
	return needs
}

func TestOrderOfLongRows(t *testing.T) {
	back := func(i int) int { return long - 1 - i }
	single(t, group.Order(long, nil), long, itself)
	single(t, group.Order(long, table(long, func(i int) []int { return []int{i + 1} })), long, back)
	single(t, group.Order(long, table(long, func(i int) []int { return []int{i - 1} })), long, itself)
	single(t, group.Order(long, table(long, func(i int) []int { return []int{i + 1, i + 2, i + 3, i} })), long, back)
	single(t, group.Order(long, table(long, func(i int) []int { return []int{i, i - 1, i - 2, i - 3, i / 2} })), long, itself)
}

func TestOrderOfLongRings(t *testing.T) {
	together(t, group.Order(long, table(long, func(i int) []int { return []int{(i + 1) % long} })), long)
	together(t, group.Order(long, table(long, func(i int) []int { return []int{(i + long - 1) % long} })), long)
	together(t, group.Order(long, table(long, func(i int) []int { return []int{i + 1, i - 1} })), long)
	together(t, group.Order(long, table(long, func(i int) []int { return []int{i + 1, 0} })), long)
	together(t, group.Order(long, table(long, func(i int) []int { return []int{i * 7 % long, (i + 3) % long, (i + long - 5) % long} })), long)
}

// Many rings in a row: each needs the next one, and each the one ahead.
func TestOrderOfManyRings(t *testing.T) {
	for _, ahead := range []int{2, -2} {
		got := group.Order(long, table(long, func(i int) []int { return []int{i ^ 1, i + ahead, i + ahead, i} }))
		if len(got) != long/2 {
			t.Fatalf("%d: %d groups; want %d", ahead, len(got), long/2)
		}
		for i, one := range got {
			least := 2 * i
			if ahead > 0 {
				least = long - 2 - 2*i
			}
			if !slices.Equal(one, []int{least, least + 1}) {
				t.Fatalf("%d, %d: %d; want the least to be %d", ahead, i, one, least)
			}
		}
	}
}

// All need one, and one needs all.
func TestOrderOfStars(t *testing.T) {
	all := make([]int, long)
	for i := range all {
		all[i] = i
	}
	single(t, group.Order(long, table(long, func(int) []int { return []int{0} })), long, itself)
	single(t, group.Order(long, table(long, func(int) []int { return []int{long - 1} })), long, func(i int) int { return (i + long - 1) % long })
	single(t, group.Order(long, [][]int{all}), long, func(i int) int { return (i + 1) % long })
	single(t, group.Order(long, [][]int{nil, all[:1], all[2:]}), long, func(i int) int {
		switch {
		case i < 2:
			return i
		case i == long-1:
			return 2
		}
		return i + 1
	})
	together(t, group.Order(long, append([][]int{all}, table(long-1, func(int) []int { return []int{0} })...)), long)
}

// As many needs as there can be of a few; and the same one very often.
func TestOrderOfManyNeeds(t *testing.T) {
	const few = 1500
	all := make([]int, few)
	for i := range all {
		all[i] = i
	}
	together(t, group.Order(few, table(few, func(int) []int { return all })), few)
	single(t, group.Order(few, table(few, func(i int) []int { return all[:i] })), few, itself)
	single(t, group.Order(few, table(few, func(i int) []int { return all[i:] })), few, func(i int) int { return few - 1 - i })
	same := slices.Repeat([]int{1}, long)
	single(t, group.Order(2, [][]int{same, same}), 2, func(i int) int { return 1 - i })
	together(t, group.Order(2, [][]int{same, {0}}), 2)
}

const many = 1 << 16

func numbered(i int) string { return "v" + strconv.Itoa(i) }

// definitions are many, each with the needs that are made of its place.
func definitions(n int, of func(i int) []string) []api.Bind {
	l := make([]api.Bind, n)
	for i := range l {
		l[i] = bind(numbered(i), of(i)...)
	}
	return l
}

func TestGroupsOfMany(t *testing.T) {
	single(t, group.Groups(definitions(many, func(int) []string { return nil })), many, itself)
	single(t, group.Groups(definitions(many, func(i int) []string { return []string{numbered(i + 1), "x"} })), many, func(i int) int { return many - 1 - i })
	single(t, group.Groups(definitions(many, func(i int) []string { return []string{numbered(i - 1), numbered(i)} })), many, itself)
	ring := definitions(many, func(i int) []string { return []string{numbered((i + 1) % many)} })
	together(t, group.Groups(ring), many)
	ring[many/2].Signed = true
	half := group.Groups(ring)
	single(t, half, many, func(i int) int {
		if i < many/2 {
			return many/2 - 1 - i
		}
		return many - 1 - (i - many/2)
	})
}

func manyNames(n int) []string {
	l := make([]string, n)
	for i := range l {
		l[i] = numbered(i)
	}
	return l
}

func TestNeedsOfMany(t *testing.T) {
	names := manyNames(many)
	l := definitions(many, func(int) []string { return nil })
	back := slices.Clone(names)
	slices.Reverse(back)
	l[7] = bind("v7", append(back, names...)...)
	got := group.Needs(l, 7)
	together(t, [][]int{got}, many)
	l[3].Signed, l[7].Signed = true, true
	if got = group.Needs(l, 7); len(got) != many-2 || got[3] != 4 || got[6] != 8 {
		t.Errorf("%d of them", len(got))
	}
}

// Each of some needs all of them.
func TestGroupsOfManyNeeds(t *testing.T) {
	const few = 700
	names := manyNames(few)
	l := definitions(few, func(int) []string { return names })
	together(t, group.Groups(l), few)
	for i := range l {
		if got := group.Needs(l, i); len(got) != few {
			t.Fatalf("%d: %d of them", i, len(got))
		}
	}
	for i := range l {
		l[i].Signed = true
	}
	single(t, group.Groups(l), few, itself)
}

// Many of one name, each of which needs that name, another one that is there as often, or both.
func TestGroupsOfManyTwins(t *testing.T) {
	twins := func(of func(i int) api.Bind) []api.Bind {
		l := make([]api.Bind, many)
		for i := range l {
			l[i] = of(i)
		}
		return l
	}
	together(t, group.Groups(twins(func(int) api.Bind { return bind("a", "a") })), many)
	together(t, group.Groups(twins(func(i int) api.Bind { return bind([]string{"a", "b"}[i%2], []string{"b", "a"}[i%2]) })), many)
	got := group.Groups(twins(func(i int) api.Bind { return bind([]string{"a", "b"}[i%2], "b") }))
	if len(got) != 1+many/2 || len(got[0]) != many/2 || got[0][0] != 1 || got[0][many/2-1] != many-1 {
		t.Fatalf("%d groups", len(got))
	}
	single(t, got[1:], many/2, func(i int) int { return 2 * i })
	if got := group.Needs(twins(func(int) api.Bind { return bind("a", "a") }), 7); len(got) != many {
		t.Errorf("%d of them", len(got))
	}
}

// Bodies as deep as the document goes.
func TestNeedsOfDeepBodies(t *testing.T) {
	for name, around := range map[string]func(e api.Expr) api.Expr{
		"applications": func(e api.Expr) api.Expr { return expr(api.EApp, "", evar("c"), e) },
		"lambdas":      func(e api.Expr) api.Expr { return expr(api.ELam, "c", e) },
		"lets": func(e api.Expr) api.Expr {
			return api.Expr{Kind: api.ELet, Binds: []api.Bind{{Name: "c", Body: evar("c")}}, L: []api.Expr{e}}
		},
		"cases": func(e api.Expr) api.Expr {
			return api.Expr{Kind: api.ECase, L: []api.Expr{evar("x")}, Alts: []api.Alt{{Vars: []string{"c"}, Body: e}}}
		},
	} {
		e := expr(api.EApp, "", evar("b"), evar("c"))
		for range many - 8 {
			e = around(e)
		}
		want := [][]int{{1}}
		if name == "applications" {
			want[0] = []int{1, 2}
		}
		l := []api.Bind{{Name: "a", Body: e}, bind("b", "a"), bind("c")}
		areGroups(t, [][]int{group.Needs(l, 0)}, want...)
		want = [][]int{{0, 1}, {2}}
		if name == "applications" {
			want = [][]int{{2}, {0, 1}}
		}
		areGroups(t, group.Groups(l), want...)
	}
}
