package group_test

import (
	"reflect"
	"slices"
	"testing"

	"paideia/api"
	"paideia/group"
)

// roomy is a list with room behind it, in which something stands.
func roomy[T any](l []T, more ...T) []T {
	room := append(make([]T, 0, len(l)+len(more)), l...)
	return append(room, more...)[:len(l)]
}

// roomyEach is roomy of a list of which each is made roomy.
func roomyEach[T any](l []T, each func(T) T, more ...T) []T {
	made := make([]T, len(l))
	for i, x := range l {
		made[i] = each(x)
	}
	return roomy(made, more...)
}

func evar(name string) api.Expr { return api.Expr{Kind: api.EVar, Name: name, Pos: 7777} }

func roomyExpr(e api.Expr) api.Expr {
	e.L = roomyEach(e.L, roomyExpr, evar("a"), evar("b"), evar("c"))
	e.Alts = roomyEach(e.Alts, roomyAlt, api.Alt{Con: "Room", Body: evar("a")})
	e.Binds = roomyEach(e.Binds, roomyBind, api.Bind{Name: "a", Body: evar("b")}, api.Bind{Name: "b", Body: evar("c")})
	return e
}

func roomyAlt(a api.Alt) api.Alt {
	a.Vars, a.Body = roomy(a.Vars, "a", "b", "c"), roomyExpr(a.Body)
	return a
}

func roomyBind(b api.Bind) api.Bind {
	b.Body, b.Sig.Vars = roomyExpr(b.Body), roomy(b.Sig.Vars, "a")
	return b
}

// roomyBinds have room in each list, in which stand some that would be needed, and would need.
func roomyBinds(text string) []api.Bind {
	return roomyEach(readBinds(text), roomyBind, api.Bind{Name: "a", Body: evar("b")}, api.Bind{Name: "b", Body: evar("a")}, api.Bind{Name: "z", Body: evar("z")})
}

func roomyNeeds(needs [][]int) [][]int {
	return roomyEach(needs, func(l []int) []int { return roomy(l, 0, 1, 2, 3) }, []int{6}, []int{5})
}

// whole is a value in which each list goes to its memory's end, spare room too: a copy.
func whole(v reflect.Value) any {
	switch v.Kind() {
	case reflect.Slice:
		l := make([]any, v.Cap())
		for i := range l {
			l[i] = whole(v.Slice(0, v.Cap()).Index(i))
		}
		return l
	case reflect.Struct:
		l := make([]any, v.NumField())
		for i := range l {
			l[i] = whole(v.Field(i))
		}
		return l
	}
	return v.Interface()
}

func wholeOf(x any) any { return whole(reflect.ValueOf(x)) }

const memoryText = "a = let { x = b z; v = \\c -> c } in x; b = case C of { D c _ -> a c; c -> c; _ -> z }; c :: p -> q; c = a d; d = 1"

func memoryNeeds() [][]int { return [][]int{{9, 1, 1}, {0, 3}, nil, {}, {-1, 2}} }

func areGroups(t *testing.T, got [][]int, want ...[]int) {
	t.Helper()
	if !sameGroups(got, want) {
		t.Errorf("%d; want %d", got, want)
	}
}

// What is handed in stays, and what stands in its room is not seen.
func TestGivenStays(t *testing.T) {
	l := roomyBinds(memoryText)
	before := wholeOf(l)
	areGroups(t, group.Groups(l), []int{0, 1}, []int{3}, []int{2})
	areGroups(t, [][]int{group.Needs(l, 0), group.Needs(l, 1), group.Needs(l, 2), group.Needs(l, 3), group.Needs(l, 4)}, []int{1}, []int{0}, []int{0, 3}, nil, nil)
	if !reflect.DeepEqual(wholeOf(l), before) {
		t.Error("definitions that were handed in were written")
	}
	needs := roomyNeeds(memoryNeeds())
	before = wholeOf(needs)
	areGroups(t, group.Order(5, needs), []int{2}, []int{3}, []int{0, 1}, []int{4})
	areGroups(t, group.Order(7, needs), []int{2}, []int{3}, []int{0, 1}, []int{4}, []int{5}, []int{6})
	areGroups(t, group.Order(2, needs), []int{0, 1})
	if !reflect.DeepEqual(wholeOf(needs), before) {
		t.Error("needs that were handed in were written")
	}
}

// answers are those of which each list may be spoilt, each with what it must be.
func answers() (got, want [][][]int) {
	l := readBinds(memoryText + "; e = f a; f = g; g = e f")
	got = append(got, group.Groups(l), group.Order(9, [][]int{{1}, {2}, {0}, {4}, {3}, {0}}), group.Order(4, nil), [][]int{group.Needs(l, 0)}, [][]int{group.Needs(l, 2)}, [][]int{group.Needs(l, 6)})
	want = append(want, [][]int{{0, 1}, {3}, {2}, {4, 5, 6}}, [][]int{{0, 1, 2}, {3, 4}, {5}, {6}, {7}, {8}}, [][]int{{0}, {1}, {2}, {3}}, [][]int{{1}}, [][]int{{0, 3}}, [][]int{{4, 5}})
	return got, want
}

// spoil writes into a list, and into the room behind it, and behind that by appending.
func spoil(l []int) {
	room := l[:cap(l)]
	for i := range room {
		room[i] = -7
	}
	_ = append(append(l, -7, -7), -7)
}

// Whatever is written into a list of an answer, or appended to it, no other list shows it.
func TestAnswersAreApart(t *testing.T) {
	again, _ := answers()
	got, want := answers()
	for i := range got {
		for j := range got[i] {
			spoil(got[i][j])
			for k := j + 1; k < len(got[i]); k++ {
				if !slices.Equal(got[i][k], want[i][k]) {
					t.Errorf("answer %d: by list %d, list %d is %d; want %d", i, j, k, got[i][k], want[i][k])
				}
			}
		}
		for j := i + 1; j < len(got); j++ {
			areGroups(t, got[j], want[j]...)
		}
	}
	for i := range again {
		areGroups(t, again[i], want[i]...)
	}
}

// So it is with the list of the groups itself.
func TestListsOfGroupsAreApart(t *testing.T) {
	again, want := answers()
	got, _ := answers()
	for i := range got {
		inner := slices.Clone(got[i])
		room := got[i][:cap(got[i])]
		for j := range room {
			room[j] = []int{-7}
		}
		areGroups(t, inner, want[i]...)
		for j := i + 1; j < len(got); j++ {
			areGroups(t, got[j], want[j]...)
		}
	}
	for i := range again {
		areGroups(t, again[i], want[i]...)
	}
}

// A later call is not told what was written into an earlier one's answer, nor is what was handed in.
func TestAnswersAreNotWhatWasGiven(t *testing.T) {
	l, needs := readBinds(memoryText), [][]int{{0, 1}, {1, 0}, {2}}
	before, beforeNeeds := wholeOf(l), wholeOf(needs)
	for range 3 {
		some := append(group.Groups(l), group.Order(3, needs)...)
		some = append(some, group.Needs(l, 0), group.Needs(l, 2))
		areGroups(t, some, []int{0, 1}, []int{3}, []int{2}, []int{0, 1}, []int{2}, []int{1}, []int{0, 3})
		for _, one := range some {
			spoil(one)
		}
	}
	if !reflect.DeepEqual(wholeOf(l), before) || !reflect.DeepEqual(wholeOf(needs), beforeNeeds) {
		t.Error("an answer is what was handed in")
	}
}

// What is handed in is not kept: an answer stays what it was, and a later call asks of what is there then.
func TestGivenIsNotKept(t *testing.T) {
	l, needs := readBinds("a = b; b = a; c = 1"), [][]int{{1}, {0}, nil}
	groups, ordered, needed := group.Groups(l), group.Order(3, needs), group.Needs(l, 0)
	l[0].Body.Name, l[2].Signed, needs[0][0], needs[2] = "c", true, 2, []int{1}
	areGroups(t, groups, []int{0, 1}, []int{2})
	areGroups(t, ordered, []int{0, 1}, []int{2})
	areGroups(t, [][]int{needed}, []int{1})
	areGroups(t, group.Groups(l), []int{0}, []int{1}, []int{2})
	areGroups(t, group.Order(3, needs), []int{0, 1, 2})
	areGroups(t, [][]int{group.Needs(l, 0), group.Needs(l, 1)}, nil, []int{0})
}

// Lists that are one piece of memory, one behind the other, or the same one.
func TestListsInOnePiece(t *testing.T) {
	piece := []int{1, 2, 0, 3, 3, 0}
	before := slices.Clone(piece)
	isOrder(t, [][]int{piece[:1], piece[1:2], piece[2:3], piece[3:3]}, []int{0, 1, 2}, []int{3})
	isOrder(t, [][]int{piece[:2], piece[3:4], piece[2:4], piece[4:4]}, []int{3}, []int{1}, []int{0, 2})
	isOrder(t, [][]int{piece[:0], piece[:1], piece[:2], piece[:3]}, []int{0}, []int{1}, []int{2}, []int{3})
	isOrder(t, [][]int{piece[4:], piece[4:], piece[4:], piece[4:]}, []int{0, 3}, []int{1}, []int{2})
	isOrder(t, [][]int{piece, piece, piece, piece}, []int{0, 1, 2, 3})
	if !slices.Equal(piece, before) {
		t.Error("what was handed in was written")
	}
	l := readBinds("a = f b; b = 1; c = 1; f = c")
	l[2].Body = l[0].Body
	areGroups(t, group.Groups(l), []int{1}, []int{2, 3}, []int{0})
}

// An answer hangs on nothing that was asked before.
func TestAsOften(t *testing.T) {
	_, want := answers()
	for range 20 {
		got, _ := answers()
		for i := range got {
			areGroups(t, got[i], want[i]...)
		}
		group.Order(7, memoryNeeds())
	}
}
