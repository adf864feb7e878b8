package unify_test

import (
	"reflect"
	"slices"
	"testing"

	"paideia/api"
	"paideia/subst"
	"paideia/unify"
)

// spoil writes into each list of a type, its spare room too.
func spoil(t api.Type) {
	for _, x := range t.Args {
		spoil(x)
	}
	room := t.Args[:cap(t.Args)]
	for i := range room {
		room[i] = tvar("spoilt")
	}
}

// roomy is a type of which each list has room, with something in it.
func roomy(t api.Type) api.Type {
	room := make([]api.Type, len(t.Args), len(t.Args)+3)
	for i, x := range t.Args {
		room[i] = roomy(x)
	}
	copy(room[len(t.Args):cap(room)], []api.Type{tvar("a"), tcon("R2", tvar("b")), tvar("r3")})
	t.Args = room
	return t
}

// rooms are all lists of a type, to the ends of their memory.
func rooms(t api.Type) [][]api.Type {
	l := [][]api.Type{slices.Clone(t.Args[:cap(t.Args)])}
	for _, x := range t.Args {
		l = append(l, rooms(x)...)
	}
	return l
}

func roomsOf(l []pair) (all [][]api.Type) {
	for _, x := range l {
		all = append(append(all, rooms(x[0])...), rooms(x[1])...)
	}
	return all
}

// cells adds the places of a type's lists, to the ends of their memory.
func cells(l []*api.Type, t api.Type) []*api.Type {
	room := t.Args[:cap(t.Args)]
	for i := range room {
		l = append(l, &room[i])
	}
	for _, x := range t.Args {
		l = cells(l, x)
	}
	return l
}

// samples have types that several variables share, and one of each answer.
func samples() []string {
	return []string{
		"P a b c ~ P (T d (U e)) a (V a b -> W)",
		"a ~ T (U b) (U b); c ~ a; d ~ P a c",
		"P (T b -> U) (T b -> U) ~ P a c",
		"a -> T b ~ a -> T b",
		"P a T ~ P (U b) V",
		"P a b ~ P (U b) (U a)",
		"a ~ T b; T U ~ T (T U)",
		"a ~ T b; b ~ U (T a)",
	}
}

func roomyPairs(text string) []pair {
	l := readPairs(text)
	for i, x := range l {
		l[i] = pair{roomy(x[0]), roomy(x[1])}
	}
	return l
}

// ask asks both calls: All of all pairs, Unify of the first.
func ask(l []pair) []string {
	s, err := unify.Unify(l[0][0], l[0][1])
	r, e := unify.All(l...)
	return []string{say(s, err), say(r, e)}
}

// What is handed in is not changed, and what lies behind a list's length is neither read nor written.
func TestGivenStays(t *testing.T) {
	for _, text := range samples() {
		l := roomyPairs(text)
		before := roomsOf(l)
		if got, want := ask(l), ask(readPairs(text)); !slices.Equal(got, want) {
			t.Errorf("%s: %q; want %q", text, got, want)
		}
		if !reflect.DeepEqual(roomsOf(l), before) {
			t.Errorf("%s: what was handed in was written", text)
		}
	}
}

func TestPairsBehindTheLength(t *testing.T) {
	l := readPairs("a ~ T b; b ~ U; T ~ U; c ~ L c")
	before := slices.Clone(l)
	for n, want := range []string{"", "a = T b", "a = T U; b = U", "ErrType", "ErrType"} {
		if got := say(unify.All(l[:n]...)); got != want {
			t.Errorf("%d: %s; want %s", n, got, want)
		}
	}
	if got := say(unify.All(l[3:]...)); got != "ErrOccur" {
		t.Error(got)
	}
	if !reflect.DeepEqual(l, before) {
		t.Error("what was handed in was written")
	}
}

// What is handed in is not kept: written later on, it isn't seen in what was found; nor is that seen in it.
func TestGivenIsNotKept(t *testing.T) {
	for _, text := range samples() {
		l := roomyPairs(text)
		s, err := unify.Unify(l[0][0], l[0][1])
		r, e := unify.All(l...)
		for i, x := range l {
			spoil(x[0])
			spoil(x[1])
			l[i] = pair{tvar("spoilt"), tcon("Spoilt")}
		}
		if got, want := []string{say(s, err), say(r, e)}, ask(readPairs(text)); !slices.Equal(got, want) {
			t.Errorf("%s: %q; want %q", text, got, want)
		}
		l = roomyPairs(text)
		before := roomsOf(l)
		spoilFound(unify.Unify(l[0][0], l[0][1]))
		spoilFound(unify.All(l...))
		if !reflect.DeepEqual(roomsOf(l), before) {
			t.Errorf("%s: what was found is what was handed in", text)
		}
	}
}

func spoilFound(s subst.Subst, _ error) {
	for name, x := range s.Pairs() {
		spoil(x)
		x, _ = s.Get(name)
		spoil(x)
		spoil(s.Apply(tvar(name)))
	}
}

// What a caller writes into a type that was found, what was found doesn't show, nor what is found again.
func TestFoundStays(t *testing.T) {
	for _, text := range samples() {
		l := readPairs(text)
		want := ask(l)
		s, err := unify.All(l...)
		spoilFound(s, err)
		if got := say(s, err); got != want[1] {
			t.Errorf("%s: %s; want %s", text, got, want[1])
		}
		if got := ask(l); !slices.Equal(got, want) {
			t.Errorf("%s: %q; want %q", text, got, want)
		}
	}
}

// No two lists that are handed out, or were handed in, lie in the same memory.
func TestFoundIsApart(t *testing.T) {
	for _, text := range samples() {
		l := roomyPairs(text)
		var all []*api.Type
		for _, x := range l {
			all = cells(cells(all, x[0]), x[1])
		}
		for range 2 {
			s, _ := unify.All(l...)
			for name, x := range s.Pairs() {
				again, _ := s.Get(name)
				all = cells(cells(all, x), again)
			}
		}
		seen := map[*api.Type]bool{}
		for _, cell := range all {
			if seen[cell] {
				t.Errorf("%s: two lists share", text)
				break
			}
			seen[cell] = true
		}
	}
}

// What is found hangs on no call ahead of it.
func TestCallsAreApart(t *testing.T) {
	l := samples()
	for _, first := range l {
		want := ask(readPairs(first))
		for _, text := range l {
			ask(readPairs(text))
		}
		if got := ask(readPairs(first)); !slices.Equal(got, want) {
			t.Errorf("%s: %q; want %q", first, got, want)
		}
	}
}
