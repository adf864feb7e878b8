package scheme_test

import (
	"reflect"
	"slices"
	"strings"
	"testing"

	"paideia/api"
	"paideia/scheme"
)

// roomyType is a type of which each list has room, with something in it.
func roomyType(t api.Type) api.Type {
	room := make([]api.Type, len(t.Args), len(t.Args)+3)
	for i, x := range t.Args {
		room[i] = roomyType(x)
	}
	copy(room[len(t.Args):cap(room)], []api.Type{tvar("r1"), tcon("R2", tvar("r2")), tvar("a")})
	t.Args = room
	return t
}

func roomyNames(l []string, more ...string) []string {
	room := append(make([]string, 0, len(l)+len(more)), l...)
	return append(room, more...)[:len(l)]
}

func roomyPreds(l []api.Pred) []api.Pred {
	room := make([]api.Pred, len(l), len(l)+2)
	for i, p := range l {
		room[i] = pred(p.Class, roomyType(p.Type))
	}
	copy(room[len(l):cap(room)], []api.Pred{pred("Room", tvar("r4")), pred("A", tcon("R5", tvar("r5")))})
	return room
}

// roomy is a scheme of which each list has room, with something in it: names of variables that are free in it among them.
func roomy(s api.Scheme) api.Scheme {
	return api.Scheme{Vars: roomyNames(s.Vars, "c", "d", "a"), Context: roomyPreds(s.Context), Type: roomyType(s.Type)}
}

// whole is a scheme's memory, each list to its end.
func whole(s api.Scheme) []any {
	l := append([]any{slices.Clone(s.Vars[:cap(s.Vars)])}, wholeType(s.Type)...)
	return append(l, wholePreds(s.Context)...)
}

func wholePreds(preds []api.Pred) []any {
	l := []any{slices.Clone(preds[:cap(preds)])}
	for _, p := range preds {
		l = append(l, wholeType(p.Type)...)
	}
	return l
}

func wholeType(t api.Type) []any {
	l := []any{slices.Clone(t.Args[:cap(t.Args)])}
	for _, x := range t.Args {
		l = append(l, wholeType(x)...)
	}
	return l
}

// spoil writes into each list of a scheme, its spare room too.
func spoil(s api.Scheme) {
	spoilType(s.Type)
	for _, p := range s.Context {
		spoilType(p.Type)
	}
	fill(s.Context, pred("Spoilt", tvar("spoilt")))
	fill(s.Vars, "spoilt")
}

func spoilType(t api.Type) {
	for _, x := range t.Args {
		spoilType(x)
	}
	fill(t.Args, tvar("spoilt"))
}

func fill[T any](l []T, x T) {
	room := l[:cap(l)]
	for i := range room {
		room[i] = x
	}
}

// places are those of a scheme's lists, to the ends of their memory.
func places(s api.Scheme) (l []any) {
	l = addPlaces(l, s.Vars)
	l = addPlaces(l, s.Context)
	for _, p := range s.Context {
		l = append(l, typePlaces(p.Type)...)
	}
	return append(l, typePlaces(s.Type)...)
}

func typePlaces(t api.Type) []any {
	l := addPlaces(nil, t.Args)
	for _, x := range t.Args {
		l = append(l, typePlaces(x)...)
	}
	return l
}

func addPlaces[T any](l []any, of []T) []any {
	room := of[:cap(of)]
	for i := range room {
		l = append(l, &room[i])
	}
	return l
}

// call is what a call answers, as a scheme.
type call struct {
	name string
	of   func(s api.Scheme) api.Scheme
}

func calls() []call {
	return []call{
		{"Canon", scheme.Canon},
		{"Close", func(s api.Scheme) api.Scheme { return scheme.Close(s.Context, s.Type) }},
		{"Close but not", func(s api.Scheme) api.Scheme { return scheme.Close(s.Context, s.Type, s.Vars...) }},
		{"Fresh", func(s api.Scheme) api.Scheme {
			s, _ = scheme.Fresh(s, 7)
			return s
		}},
		{"Free", func(s api.Scheme) api.Scheme { return api.Scheme{Vars: scheme.Free(s)} }},
		{"SortPreds", func(s api.Scheme) api.Scheme { return api.Scheme{Context: scheme.SortPreds(s.Context)} }},
		{"Same", func(s api.Scheme) api.Scheme {
			if scheme.Same(s, s) && scheme.Same(s, scheme.Canon(s)) {
				return read(". Same")
			}
			return read(". Other")
		}},
	}
}

// samples are schemes to ask of: such of which an answer is as it was, too.
func samples() []string {
	return []string{
		"b a x . (Ord (T b (c -> a)), Eq a, Eq d, Eq a) => T a (b -> U c) -> b",
		"a b . (Eq a, Ord (T b U)) => T (U a b) -> V",
		". (Eq (T a), Ord (a -> b)) => T (U a) -> b",
		"a . a",
		"x y . T V",
		". T",
		"a a . (Eq T, Eq T, Eq T) => a -> c",
	}
}

// What is handed in is not changed, and what lies behind a list's length is neither read nor written.
func TestGivenStays(t *testing.T) {
	for _, x := range calls() {
		for _, text := range samples() {
			s := roomy(read(text))
			before := whole(s)
			is(t, x.of(s), say(x.of(read(text))))
			if !reflect.DeepEqual(whole(s), before) {
				t.Errorf("%s of %s: what was handed in was written", x.name, text)
			}
		}
	}
}

// What is handed in is not kept: written later on, it isn't seen in an answer; nor is an answer seen in it.
func TestGivenIsNotKept(t *testing.T) {
	for _, x := range calls() {
		for _, text := range samples() {
			s, want := roomy(read(text)), say(x.of(read(text)))
			got := x.of(s)
			spoil(s)
			is(t, got, want)
			is(t, x.of(read(text)), want)
			s = roomy(read(text))
			before := whole(s)
			spoil(x.of(s))
			if !reflect.DeepEqual(whole(s), before) {
				t.Errorf("%s of %s: an answer is what was handed in", x.name, text)
			}
			is(t, x.of(s), want)
		}
	}
}

// No two lists of an answer, of another one, or of what was handed in lie in the same memory, spare room too.
func TestAnswersAreApart(t *testing.T) {
	for _, x := range calls() {
		for _, text := range samples() {
			s := roomy(read(text))
			all := places(s)
			for range 2 {
				all = append(all, places(x.of(s))...)
			}
			seen := map[any]bool{}
			for _, place := range all {
				if seen[place] {
					t.Fatalf("%s of %s: two lists share", x.name, text)
				}
				seen[place] = true
			}
		}
	}
}

// Parts that lie in one memory where they are handed in are apart in the answer.
func TestSharedParts(t *testing.T) {
	part := read(". T (U a) -> b").Type
	s := api.Scheme{Vars: []string{"a"}, Context: []api.Pred{pred("Ord", part), pred("Eq", part), pred("Eq", tcon("V", part, part))}, Type: tfun(part, part)}
	for _, x := range calls() {
		seen := map[any]bool{}
		for _, place := range places(x.of(s)) {
			if seen[place] {
				t.Fatalf("%s: two lists share", x.name)
			}
			seen[place] = true
		}
	}
	is(t, scheme.Canon(s), "a . (Eq (V (T (U a) -> b) (T (U a) -> b)), Eq (T (U a) -> b), Ord (T (U a) -> b)) => (T (U a) -> b) -> T (U a) -> b")
	if got := say(api.Scheme{Type: part}); got != ". T (U a) -> b" {
		t.Error(got)
	}
}

// Lists that are one piece of memory, one behind the other: each ends at its length.
func TestListsInOnePiece(t *testing.T) {
	names := []string{"a", "b", "c", "d"}
	context := preds("Ord c, Eq b, Eq a, Eq b, Num d")
	namesBefore, contextBefore := slices.Clone(names), slices.Clone(context)
	typ := read(". a -> b -> c -> d").Type
	s := api.Scheme{Vars: names[:2], Context: context[:2], Type: typ}
	is(t, scheme.Canon(s), "a b . (Eq b, Ord c) => a -> b -> c -> d")
	areNames(t, scheme.Free(s), "c", "d")
	is(t, scheme.Close(context[1:3], typ, names[2:3]...), "a b d . (Eq b, Eq a) => a -> b -> c -> d")
	fresh, next := scheme.Fresh(api.Scheme{Vars: names[1:3], Context: context[:1], Type: typ}, 0)
	if is(t, fresh, "?0 ?1 . Ord ?1 => a -> ?0 -> ?1 -> d"); next != 2 {
		t.Error(next)
	}
	if got := sayPreds(scheme.SortPreds(context[:3])); got != "Eq a, Eq b, Ord c" {
		t.Error(got)
	}
	if !scheme.Same(s, api.Scheme{Vars: names[:2], Context: preds("Eq b, Ord c"), Type: typ}) {
		t.Error("Same")
	}
	if !slices.Equal(names, namesBefore) || !reflect.DeepEqual(context, contextBefore) {
		t.Error("what was handed in was written")
	}
}

// An answer hangs on nothing that was asked before.
func TestAsOften(t *testing.T) {
	for range 3 {
		for _, x := range calls() {
			var first []string
			for range 3 {
				var l []string
				for _, text := range samples() {
					s := x.of(read(text))
					l = append(l, say(s))
					spoil(s)
				}
				if first == nil {
					first = l
				}
				if !slices.Equal(first, l) {
					t.Fatalf("%s: %s; then %s", x.name, strings.Join(first, "; "), strings.Join(l, "; "))
				}
			}
		}
	}
}
