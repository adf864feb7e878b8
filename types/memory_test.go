package types_test

import (
	"reflect"
	"slices"
	"testing"

	"paideia/api"
	"paideia/types"
)

// spoil writes into each list of a type, its spare room too.
func spoil(t api.Type) {
	for _, x := range t.Args {
		spoil(x)
	}
	spoilList(t.Args)
}

func spoilList(l []api.Type) {
	room := l[:cap(l)]
	for i := range room {
		room[i] = tvar("spoilt")
	}
}

// roomy is a type of which each list has room, with something in it.
func roomy(t api.Type) api.Type {
	room := make([]api.Type, len(t.Args), len(t.Args)+3)
	for i, x := range t.Args {
		room[i] = roomy(x)
	}
	copy(room[len(t.Args):cap(room)], []api.Type{tvar("r1"), tcon("R2", tvar("r2")), tvar("r3")})
	t.Args = room
	return t
}

// rooms are all lists of a type, to the ends of their memory.
func rooms(t api.Type) [][]api.Type {
	l := [][]api.Type{slices.Clone(t.Args[:cap(t.Args)])}
	for _, x := range t.Args {
		l = append(l, rooms(x)...)
	}
	return l
}

const sample = "(T a U -> b) -> T (U c) V"

// answer is what a call answers of a type, as types.
type answer struct {
	name string
	of   func(t api.Type) []api.Type
}

func partsOf(t api.Type) []api.Type {
	l, end := types.Parts(t)
	return append(l[:len(l):len(l)], end)
}

func answers() []answer {
	return []answer{
		{"Con", func(t api.Type) []api.Type { return []api.Type{types.Con("T", t, t, tvar("x"))} }},
		{"Con of none", func(t api.Type) []api.Type { return []api.Type{types.Con("T", t.Args[:0]...)} }},
		{"Con of a list", func(t api.Type) []api.Type { return []api.Type{types.Con("T", t.Args...)} }},
		{"Fun of none", func(t api.Type) []api.Type { return []api.Type{types.Fun(t.Args[:0]...)} }},
		{"Fun of one", func(t api.Type) []api.Type { return []api.Type{types.Fun(t)} }},
		{"Fun of three", func(t api.Type) []api.Type { return []api.Type{types.Fun(t, t, t)} }},
		{"Fun of a list", func(t api.Type) []api.Type { return []api.Type{types.Fun(t.Args...)} }},
		{"Parts", partsOf},
		{"Parts of no function", func(t api.Type) []api.Type { return partsOf(t.Args[1]) }},
		{"All", func(t api.Type) []api.Type { return slices.Collect(types.All(t)) }},
	}
}

// What is handed in is not changed, and what lies behind a list's length is neither read nor written.
func TestGivenStays(t *testing.T) {
	whole := roomy(read(sample))
	before := rooms(whole)
	for _, x := range answers() {
		for i, got := range x.of(whole) {
			if want := x.of(read(sample))[i]; !types.Same(got, want) {
				t.Errorf("%s: %+v; want %+v", x.name, got, want)
			}
		}
	}
	areNames(t, types.Vars(whole, whole), "a", "b", "c")
	if types.Has(whole, "r1") || types.Has(whole, "r2") {
		t.Error("Has reads behind a list's length")
	}
	if types.Size(whole) != types.Size(read(sample)) {
		t.Error("Size reads behind a list's length")
	}
	if types.Compare(whole, read(sample)) != 0 || types.Compare(read(sample), whole) != 0 || !types.Same(whole, read(sample)) {
		t.Error("Compare reads behind a list's length")
	}
	if !reflect.DeepEqual(rooms(whole), before) {
		t.Error("what was handed in was written")
	}
}

// What is handed in is not kept: written later on, it isn't seen in an answer; nor is an answer seen in it.
func TestGivenIsNotKept(t *testing.T) {
	for _, x := range answers() {
		whole := roomy(read(sample))
		got := x.of(whole)
		spoil(whole)
		for i, want := range x.of(read(sample)) {
			is(t, got[i], want)
		}
		whole = roomy(read(sample))
		before := rooms(whole)
		for _, y := range x.of(whole) {
			spoil(y)
		}
		if !reflect.DeepEqual(rooms(whole), before) {
			t.Errorf("%s: an answer is what was handed in", x.name)
		}
	}
}

// cells adds the places of a type's lists, to the ends of their memory.
func cells(l []*api.Type, t api.Type) []*api.Type {
	room := t.Args[:cap(t.Args)]
	for i := range room {
		l = append(l, &room[i])
	}
	for _, x := range t.Args {
		l = cells(l, x)
	}
	return l
}

// No two lists of an answer, of another one, or of what was handed in lie in the same memory: so what is written into one is seen in none other.
func TestAnswersAreApart(t *testing.T) {
	for _, x := range answers() {
		whole := roomy(read(sample))
		l := cells(nil, whole)
		for range 2 {
			for _, y := range x.of(whole) {
				l = cells(l, y)
			}
		}
		seen := map[*api.Type]bool{}
		for _, cell := range l {
			if seen[cell] {
				t.Errorf("%s: two lists share", x.name)
				break
			}
			seen[cell] = true
		}
	}
}

// The list that Parts hands out is new, with its room.
func TestPartsListIsNew(t *testing.T) {
	whole := read("a -> T b -> c")
	l, end := types.Parts(whole)
	again, _ := types.Parts(whole)
	spoilList(l)
	is(t, whole, read("a -> T b -> c"))
	is(t, end, tvar("c"))
	areTypes(t, again, tvar("a"), read("T b"))
}

// The names that Vars hands out are new, with their room.
func TestVarsListIsNew(t *testing.T) {
	whole := read("T a b c d e")
	l, again := types.Vars(whole), types.Vars(whole)
	for i := range l[:cap(l)] {
		l[:cap(l)][i] = "spoilt"
	}
	areNames(t, again, "a", "b", "c", "d", "e")
	areNames(t, types.Vars(whole), "a", "b", "c", "d", "e")
}

// All tells the type as it was handed in, whatever is written into it, or into what has been told.
func TestAllIsApart(t *testing.T) {
	whole := roomy(read(sample))
	want := slices.Collect(types.All(read(sample)))
	all := types.All(whole)
	spoil(whole)
	for range 3 {
		i := 0
		for x := range all {
			is(t, x, want[i])
			spoil(x)
			i++
		}
		if i != len(want) {
			t.Error(i)
		}
	}
}
