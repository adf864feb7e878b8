package subst_test

import (
	"reflect"
	"slices"
	"testing"

	"paideia/api"
	"paideia/subst"
)

// spoil writes into each list of a type, its spare room too.
func spoil(t api.Type) {
	for _, x := range t.Args {
		spoil(x)
	}
	room := t.Args[:cap(t.Args)]
	for i := range room {
		room[i] = tvar("spoilt")
	}
}

// roomy is a type of which each list has room, with something in it.
func roomy(t api.Type) api.Type {
	room := make([]api.Type, len(t.Args), len(t.Args)+3)
	for i, x := range t.Args {
		room[i] = roomy(x)
	}
	copy(room[len(t.Args):cap(room)], []api.Type{tvar("a"), tcon("R2", tvar("b")), tvar("r3")})
	t.Args = room
	return t
}

// rooms are all lists of a type, to the ends of their memory.
func rooms(t api.Type) [][]api.Type {
	l := [][]api.Type{slices.Clone(t.Args[:cap(t.Args)])}
	for _, x := range t.Args {
		l = append(l, rooms(x)...)
	}
	return l
}

// cells adds the places of a type's lists, to the ends of their memory.
func cells(l []*api.Type, t api.Type) []*api.Type {
	room := t.Args[:cap(t.Args)]
	for i := range room {
		l = append(l, &room[i])
	}
	for _, x := range t.Args {
		l = cells(l, x)
	}
	return l
}

const sample = "T a (b -> c) a V -> b"

// samplePairs have types with lists, with room in each.
func samplePairs() []subst.Pair {
	l := pairs("a", "T b (c -> U d)", "b", "a -> a", "d", "c", "e", "T U")
	for i := range l {
		l[i].Type = roomy(l[i].Type)
	}
	return l
}

func predTypes(l []api.Pred) []api.Type {
	var types []api.Type
	for _, p := range l {
		types = append(types, p.Type)
	}
	return types
}

func pairTypes(l []subst.Pair) []api.Type {
	var types []api.Type
	for _, p := range l {
		types = append(types, p.Type)
	}
	return types
}

func gotten(s subst.Subst, names ...string) []api.Type {
	var types []api.Type
	for _, name := range names {
		x, _ := s.Get(name)
		types = append(types, x)
	}
	return types
}

// answer is what a call answers of a type and a Subst, as types.
type answer struct {
	name string
	of   func(s subst.Subst, t api.Type) []api.Type
}

func answers() []answer {
	return []answer{
		{"Apply", func(s subst.Subst, t api.Type) []api.Type { return []api.Type{s.Apply(t), s.Apply(t)} }},
		{"Apply of the zero value", func(s subst.Subst, t api.Type) []api.Type { return []api.Type{subst.Subst{}.Apply(t)} }},
		{"Apply of a variable", func(s subst.Subst, t api.Type) []api.Type { return []api.Type{s.Apply(tvar("a")), s.Apply(tvar("b"))} }},
		{"Apply where none stands", func(s subst.Subst, t api.Type) []api.Type { return []api.Type{of("x", "T").Apply(t)} }},
		{"Get", func(s subst.Subst, t api.Type) []api.Type { return gotten(s, "a", "b", "d", "e", "a") }},
		{"Pairs", func(s subst.Subst, t api.Type) []api.Type { return pairTypes(told(s)) }},
		{"Preds", func(s subst.Subst, t api.Type) []api.Type {
			return predTypes(s.Preds([]api.Pred{{Class: "Eq", Type: t}, {Class: "Ord", Type: tvar("a")}, {Class: "Ord", Type: tvar("a")}}))
		}},
		{"Rename", func(s subst.Subst, t api.Type) []api.Type {
			return []api.Type{subst.Rename(t, []string{"a"}, []string{"b"}), subst.Rename(t, nil, nil)}
		}},
		{"Of", func(s subst.Subst, t api.Type) []api.Type {
			return pairTypes(told(subst.Of(subst.Pair{Name: "x", Type: t}, subst.Pair{Name: "y", Type: t})))
		}},
		{"Then", func(s subst.Subst, t api.Type) []api.Type {
			u := subst.Of(subst.Pair{Name: "a", Type: t}, subst.Pair{Name: "x", Type: t}, subst.Pair{Name: "y", Type: t})
			return append(pairTypes(told(s.Then(u))), pairTypes(told(u.Then(s)))...)
		}},
	}
}

// What is handed in is not changed, and what lies behind a list's length is neither read nor written.
func TestGivenStays(t *testing.T) {
	l, whole := samplePairs(), roomy(read(sample))
	var before [][]api.Type
	for _, p := range l {
		before = append(before, rooms(p.Type)...)
	}
	names, wholeBefore := slices.Clone(l), rooms(whole)
	s := subst.Of(l...)
	for _, x := range answers() {
		want := x.of(of("a", "T b (c -> U d)", "b", "a -> a", "d", "c", "e", "T U"), read(sample))
		for i, got := range x.of(s, whole) {
			is(t, got, want[i])
		}
		if t.Failed() {
			t.Fatal(x.name)
		}
	}
	var after [][]api.Type
	for _, p := range l {
		after = append(after, rooms(p.Type)...)
	}
	if !reflect.DeepEqual(rooms(whole), wholeBefore) || !reflect.DeepEqual(after, before) || !reflect.DeepEqual(l, names) {
		t.Error("what was handed in was written")
	}
}

// What is handed in is not kept: written later on, it isn't seen in an answer; nor is an answer seen in it.
func TestGivenIsNotKept(t *testing.T) {
	for _, x := range answers() {
		l, whole := samplePairs(), roomy(read(sample))
		s := subst.Of(l...)
		got := x.of(s, whole)
		spoil(whole)
		for i := range l {
			spoil(l[i].Type)
			l[i] = subst.Pair{Name: "spoilt"}
		}
		want := x.of(subst.Of(samplePairs()...), read(sample))
		for i := range want {
			is(t, got[i], want[i])
		}
		has(t, s, samplePairs()...)
		whole = roomy(read(sample))
		before := rooms(whole)
		for _, y := range x.of(s, whole) {
			spoil(y)
		}
		if !reflect.DeepEqual(rooms(whole), before) || t.Failed() {
			t.Fatalf("%s: an answer is what was handed in", x.name)
		}
	}
}

// What a caller writes into an answer no Subst shows.
func TestAnswersAreNotTheObject(t *testing.T) {
	for _, x := range answers() {
		s := subst.Of(samplePairs()...)
		for _, y := range x.of(s, read(sample)) {
			spoil(y)
		}
		has(t, s, samplePairs()...)
		is(t, s.Apply(tvar("a")), read("T b (c -> U d)"))
		if t.Failed() {
			t.Fatal(x.name)
		}
	}
}

// No two lists of an answer, of another one, or of what was handed in lie in the same memory: so what is written into one is seen in none other.
func TestAnswersAreApart(t *testing.T) {
	for _, x := range answers() {
		l, whole := samplePairs(), roomy(read(sample))
		all := cells(nil, whole)
		for _, p := range l {
			all = cells(all, p.Type)
		}
		s := subst.Of(l...)
		for range 2 {
			for _, y := range x.of(s, whole) {
				all = cells(all, y)
			}
		}
		seen := map[*api.Type]bool{}
		for _, cell := range all {
			if seen[cell] {
				t.Errorf("%s: two lists share", x.name)
				break
			}
			seen[cell] = true
		}
	}
}

// What Then makes is apart from what it is made of, and they from it, though each is asked and its answers are written.
func TestThenIsApart(t *testing.T) {
	s, u := of("a", "T b (U c)", "x", "V b"), of("b", "c -> T c", "y", "T (U a)")
	want := pairs("a", "T (c -> T c) (U c)", "b", "c -> T c", "x", "V (c -> T c)", "y", "T (U a)")
	both := s.Then(u)
	for _, z := range []subst.Subst{both, s, u, both} {
		for _, x := range pairTypes(told(z)) {
			spoil(x)
		}
		for _, x := range gotten(z, "a", "b", "x", "y") {
			spoil(x)
		}
		spoil(z.Apply(read("T a b x y")))
	}
	has(t, both, want...)
	has(t, s, pairs("a", "T b (U c)", "x", "V b")...)
	has(t, u, pairs("b", "c -> T c", "y", "T (U a)")...)
}

// A Subst hangs on none that is made of it later.
func TestObjectStays(t *testing.T) {
	s := of("a", "T b")
	for range 3 {
		s.Then(of("b", "U", "a", "V", "0", "W"))
		of("b", "U", "c", "a").Then(s)
		has(t, s, pairs("a", "T b")...)
	}
	short := of("b", "T", "b", "U", "c", "c", "d", "V") // one of which the list had more
	short.Then(of("e", "X"))
	short.Then(of("a", "Y"))
	has(t, short, pairs("b", "T", "d", "V")...)
	has(t, short.Then(of("e", "X")), pairs("b", "T", "d", "V", "e", "X")...)
}

// Pairs behind the length of Of's list are not there, and stay.
func TestOfReadsToTheLength(t *testing.T) {
	l := pairs("c", "T", "b", "U", "b", "V", "b", "b", "a", "W")
	before := slices.Clone(l)
	has(t, subst.Of(l[:2]...), pairs("b", "U", "c", "T")...)
	has(t, subst.Of(l[:0]...))
	has(t, subst.Of(l[2:4]...), pairs("b", "V")...)
	if !reflect.DeepEqual(l, before) {
		t.Error("Of writes into what is handed in")
	}
}

func TestPredsListIsNew(t *testing.T) {
	room := []api.Pred{{Class: "Eq", Type: read("T a")}, {Class: "Ord", Type: read("U")}, {Class: "Show", Type: read("V")}}
	before := slices.Clone(room)
	s := of("a", "U")
	l, again := s.Preds(room[:2]), s.Preds(room[:2])
	for i := range l[:cap(l)] {
		l[:cap(l)][i] = api.Pred{Class: "spoilt"}
	}
	want := []api.Pred{{Class: "Eq", Type: read("T U")}, {Class: "Ord", Type: read("U")}}
	arePreds(t, again, want)
	arePreds(t, s.Preds(room[:2]), want)
	none := s.Preds(room[:0])
	for i := range none[:cap(none)] {
		none[:cap(none)][i] = api.Pred{Class: "spoilt"}
	}
	if !reflect.DeepEqual(room, before) {
		t.Error("what was handed in was written")
	}
}

func TestRenameListsStay(t *testing.T) {
	from, to := []string{"c", "a", "a", "b", "d"}, []string{"z", "x", "y", "w", "v"}
	is(t, subst.Rename(read("T a b c d"), from[:3], to[:3]), read("T x b z d"))
	is(t, subst.Rename(read("T a b c d"), from, to[:2]), read("T x b z d"))
	is(t, subst.Rename(read("T a b c d"), from[:2], to), read("T x b z d"))
	if !slices.Equal(from, []string{"c", "a", "a", "b", "d"}) || !slices.Equal(to, []string{"z", "x", "y", "w", "v"}) {
		t.Error(from, to)
	}
}

// Pairs tells what is in the Subst, whatever is written into what it has told.
func TestPairsIsApart(t *testing.T) {
	s := subst.Of(samplePairs()...)
	all, want := s.Pairs(), samplePairs()
	for range 3 {
		i := 0
		for name, x := range all {
			if name != want[i].Name {
				t.Error(name)
			}
			is(t, x, want[i].Type)
			spoil(x)
			i++
		}
		if i != len(want) {
			t.Error(i)
		}
	}
}
