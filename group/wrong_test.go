package group_test

import (
	"math"
	"slices"
	"testing"

	"paideia/api"
	"paideia/group"
)

func expr(kind int, name string, l ...api.Expr) api.Expr {
	return api.Expr{Kind: kind, Name: name, Pos: 5, L: l}
}

// bind is a definition made by hand.
func bind(name string, needs ...string) api.Bind {
	body := api.Expr{Kind: api.EApp}
	for _, n := range needs {
		body.L = append(body.L, evar(n))
	}
	return api.Bind{Name: name, Body: body}
}

func signed(b api.Bind) api.Bind {
	b.Signed = true
	return b
}

func isGroupedByHand(t *testing.T, l []api.Bind, want ...[]int) {
	t.Helper()
	if got := group.Groups(l); !sameGroups(got, want) {
		t.Errorf("%+v: %d; want %d", l, got, want)
	}
}

func TestZeroValues(t *testing.T) {
	isGroupedByHand(t, make([]api.Bind, 3), []int{0}, []int{1}, []int{2})
	for i := range 3 {
		if got := group.Needs(make([]api.Bind, 3), i); len(got) > 0 {
			t.Errorf("%d: %d", i, got)
		}
	}
}

// nil and the empty list are the same, at each place.
func TestEmptyLists(t *testing.T) {
	e := api.Expr{Kind: api.ECase, L: []api.Expr{evar("a")}, Alts: []api.Alt{{Con: "C", Vars: []string{}, Body: api.Expr{Kind: api.EApp, L: []api.Expr{evar("b")}, Alts: []api.Alt{}, Binds: []api.Bind{}}}}, Binds: []api.Bind{}}
	let := api.Expr{Kind: api.ELet, L: []api.Expr{e}, Binds: []api.Bind{}, Alts: []api.Alt{}}
	l := []api.Bind{{Name: "a", Body: let}, {Name: "b", Body: api.Expr{Kind: api.EApp, L: []api.Expr{}}, Sig: api.Scheme{Vars: []string{}, Context: []api.Pred{}}}}
	areGroups(t, [][]int{group.Needs(l, 0), group.Needs(l, 1)}, []int{0, 1}, nil)
	isGroupedByHand(t, l, []int{1}, []int{0})
	isOrder(t, [][]int{{}, nil, {1}}, []int{0}, []int{1}, []int{2})
}

// Signed alone says whether one is signed: not that there is a signature.
func TestSignedAlone(t *testing.T) {
	scheme := api.Scheme{Vars: []string{"p"}, Type: api.Type{Kind: api.TVar, Name: "p"}}
	l := []api.Bind{bind("a", "b", "c"), bind("b"), bind("c")}
	l[1].Sig, l[2].Signed = scheme, true
	areGroups(t, [][]int{group.Needs(l, 0)}, []int{1})
	isGroupedByHand(t, l, []int{1}, []int{0}, []int{2})
}

// Of several of one name those that are not signed are needed, wherever they stand.
func TestTwiceByHand(t *testing.T) {
	l := []api.Bind{bind("a", "b"), signed(bind("b", "a")), bind("b"), bind("c", "a", "b"), signed(bind("b")), bind("b", "c")}
	areGroups(t, [][]int{group.Needs(l, 0), group.Needs(l, 3), group.Needs(l, 5)}, []int{2, 5}, []int{0, 2, 5}, []int{3})
	isGroupedByHand(t, l, []int{2}, []int{0, 3, 5}, []int{1}, []int{4})
	l[5].Signed = true
	areGroups(t, [][]int{group.Needs(l, 0), group.Needs(l, 3)}, []int{2}, []int{0, 2})
	isGroupedByHand(t, l, []int{2}, []int{0}, []int{1}, []int{3}, []int{4}, []int{5})
	l[2].Signed = true
	areGroups(t, [][]int{group.Needs(l, 0), group.Needs(l, 3)}, nil, []int{0})
	isGroupedByHand(t, l, []int{0}, []int{1}, []int{2}, []int{3}, []int{4}, []int{5})
}

// Names are names, whatever their bytes are; each is itself alone.
func TestOddNames(t *testing.T) {
	names := []string{"", "\xff", "\x80", "é", "a b", "A", "a", "_", "(+)", "=", "?1", "case"}
	var l []api.Bind
	for i, name := range names {
		l = append(l, bind(name, names[:i]...))
	}
	for i := range l {
		got := group.Needs(l, i)
		if len(got) != i || i > 0 && got[i-1] != i-1 {
			t.Errorf("%q: %d", names[i], got)
		}
	}
	groups := group.Groups(l)
	if len(groups) != len(names) {
		t.Error(groups)
	}
	l[0] = bind("", names[len(names)-1])
	if groups = group.Groups(l); len(groups) != 1 || len(groups[0]) != len(names) {
		t.Error(groups)
	}
}

// A constructor, a number, a letter need nothing, whatever they are called.
func TestNamesOfOtherKinds(t *testing.T) {
	l := []api.Bind{{Name: "a"}, {Name: "b"}}
	for _, kind := range kinds() {
		l[0].Body = expr(kind, "b")
		var want []int
		if kind == api.EVar {
			want = []int{1}
		}
		areGroups(t, [][]int{group.Needs(l, 0)}, want)
	}
}

func kinds() []int {
	return []int{math.MinInt, -1, 0, api.EVar, api.ECon, api.EInt, api.EChar, api.EApp, api.ELam, api.ELet, api.ECase, 9, math.MaxInt}
}

// lacking are expressions of each kind, and of kinds that are none, with as many parts as none, one, two, three.
func lacking() (l []api.Expr) {
	for _, kind := range kinds() {
		for n := range 4 {
			parts := []api.Expr{evar("a"), {}, expr(api.ECon, "b")}[:n:n]
			alts := []api.Alt{{}, {Con: "C", Vars: []string{"", "_"}, Body: evar("")}, {Vars: []string{"b", "c"}, Body: evar("b")}}[:n:n]
			binds := []api.Bind{{}, {Name: "b", Body: evar("b")}, {Name: "_", Body: evar("a")}}[:n:n]
			l = append(l, expr(kind, "d", parts...), api.Expr{Kind: kind, L: parts, Alts: alts, Binds: binds}, api.Expr{Kind: kind, Alts: alts}, api.Expr{Kind: kind, Binds: binds})
		}
	}
	return l
}

// No call panics, whatever is lacking or too much; each definition is told once, each group rises, and Groups is Order of Needs.
func TestNoneOfThemPanics(t *testing.T) {
	for _, x := range lacking() {
		for _, y := range lacking() {
			l := []api.Bind{{Name: "a", Body: x}, {Name: "b", Body: y}, {Body: x}, {Name: "_", Signed: true, Body: y}, {Name: "b", Body: evar("a")}}
			var needs [][]int
			for i := range l {
				needs = append(needs, group.Needs(l, i))
			}
			groups := group.Groups(l)
			if want := group.Order(len(l), needs); !sameGroups(groups, want) {
				t.Fatalf("%+v: %d; want %d", l, groups, want)
			}
			all := slices.Concat(groups...)
			slices.Sort(all)
			if !slices.Equal(all, []int{0, 1, 2, 3, 4}) {
				t.Fatalf("%+v: %d", l, groups)
			}
		}
	}
}

// Places that are none, in every list, wherever they stand.
func TestOrderOfOddPlaces(t *testing.T) {
	odd := []int{math.MinInt, math.MinInt + 1, math.MinInt32, -3, -2, -1, 3, 4, 5, math.MaxInt32, math.MaxUint32, math.MaxInt - 1, math.MaxInt}
	isOrderOf(t, 3, [][]int{odd, odd, odd, odd}, []int{0}, []int{1}, []int{2})
	for _, place := range odd {
		isOrder(t, [][]int{{place, 1}, {place}, {1, place, 0}}, []int{1}, []int{0}, []int{2})
		isOrderOf(t, 3, [][]int{{place}, {2, place}}, []int{0}, []int{2}, []int{1})
	}
	isOrder(t, [][]int{append(slices.Clone(odd), 2), append([]int{0}, odd...), slices.Concat(odd, []int{0}, odd)}, []int{0, 2}, []int{1})
}

// A count beyond what an answer may have is answered, too.
func TestOrderOfTooMany(t *testing.T) {
	for _, n := range []int{1 << 31, 1 << 40, 1 << 62, math.MaxInt} {
		isOrderOf(t, n, nil)
		isOrderOf(t, n, [][]int{{1}, {0}})
	}
}
