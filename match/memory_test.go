package match_test

import (
	"reflect"
	"slices"
	"testing"

	"paideia/api"
	"paideia/match"
	"paideia/subst"
)

// spoil writes into each list of a type, its spare room too.
func spoil(t api.Type) {
	for _, x := range t.Args {
		spoil(x)
	}
	room := t.Args[:cap(t.Args)]
	for i := range room {
		room[i] = tvar("spoilt")
	}
}

// roomy is a type of which each list has room, with something in it.
func roomy(t api.Type) api.Type {
	room := make([]api.Type, len(t.Args), len(t.Args)+3)
	for i, x := range t.Args {
		room[i] = roomy(x)
	}
	copy(room[len(t.Args):cap(room)], []api.Type{tvar("a"), tcon("R2", tvar("b")), tvar("r3")})
	t.Args = room
	return t
}

// rooms are all lists of a type, to the ends of their memory.
func rooms(t api.Type) [][]api.Type {
	l := [][]api.Type{slices.Clone(t.Args[:cap(t.Args)])}
	for _, x := range t.Args {
		l = append(l, rooms(x)...)
	}
	return l
}

// cells adds the places of a type's lists, to the ends of their memory.
func cells(l []*api.Type, t api.Type) []*api.Type {
	room := t.Args[:cap(t.Args)]
	for i := range room {
		l = append(l, &room[i])
	}
	for _, x := range t.Args {
		l = cells(l, x)
	}
	return l
}

// samples have types that are given several times, and one of each answer.
func samples() []string {
	return []string{
		"P a (b -> a) c ~ P (T b (U d)) (V -> T b (U d)) (W a -> T b (U d))",
		"a ~ T (U b V) (U b V)",
		"P a a ~ P (T b) (T b)",
		"P a (T b) ~ P b (T a)",
		"T (U a) ~ T (U a)",
		"P a a (T b) ~ P (T b) (T c) (T b)",
		"P a T ~ P (T (U V)) U",
		"T (U V) ~ a",
	}
}

func roomyTwo(text string) (api.Type, api.Type) {
	a, b := readTwo(text)
	return roomy(a), roomy(b)
}

// ask asks both calls.
func ask(a, b api.Type) [2]string {
	both := "not both"
	if match.Both(a, b) {
		both = "both"
	}
	return [2]string{say(match.Match(a, b)), both}
}

// What is handed in is not changed, and what lies behind a list's length is neither read nor written.
func TestGivenStays(t *testing.T) {
	for _, text := range samples() {
		a, b := roomyTwo(text)
		before := append(rooms(a), rooms(b)...)
		if got, want := ask(a, b), ask(readTwo(text)); got != want {
			t.Errorf("%s: %q; want %q", text, got, want)
		}
		if !reflect.DeepEqual(append(rooms(a), rooms(b)...), before) {
			t.Errorf("%s: what was handed in was written", text)
		}
	}
}

// Lists that are one piece of memory, one behind the other: each ends at its length.
func TestListsInOnePiece(t *testing.T) {
	room := []api.Type{tvar("a"), tvar("a"), tvar("b"), tcon("T"), tcon("T"), tcon("U")}
	before := slices.Clone(room)
	con := func(l []api.Type) api.Type { return api.Type{Kind: api.TCon, Name: "P", Args: l} }
	for i, x := range []struct {
		a, b []api.Type
		want string
	}{
		{room[:2], room[3:5], "a = T"}, {room[:2], room[4:6], "no"}, {room[1:3], room[3:5], "a = T; b = T"}, {room[1:3], room[4:6], "a = T; b = U"},
		{room[:3], room[3:6], "a = T; b = U"}, {room[:3], room[2:5], "no"}, {room[:0], room[3:3], ""}, {room[:1], room[2:3], "a = b"}, {room[:1], room[2:4], "no"},
	} {
		if got := say(answer(t, con(x.a), con(x.b))); got != x.want {
			t.Errorf("%d: %s; want %s", i, got, x.want)
		}
	}
	if !reflect.DeepEqual(room, before) {
		t.Error("what was handed in was written")
	}
}

// What is handed in is not kept: written later on, it isn't seen in what was found; nor is that seen in it.
func TestGivenIsNotKept(t *testing.T) {
	for _, text := range samples() {
		a, b := roomyTwo(text)
		s, is := match.Match(a, b)
		spoil(a)
		spoil(b)
		if got, want := say(s, is), say(match.Match(readTwo(text))); got != want {
			t.Errorf("%s: %s; want %s", text, got, want)
		}
		a, b = roomyTwo(text)
		before := append(rooms(a), rooms(b)...)
		spoilFound(match.Match(a, b))
		if !reflect.DeepEqual(append(rooms(a), rooms(b)...), before) {
			t.Errorf("%s: what was found is what was handed in", text)
		}
	}
}

func spoilFound(s subst.Subst, _ bool) {
	for name, x := range s.Pairs() {
		spoil(x)
		x, _ = s.Get(name)
		spoil(x)
		spoil(s.Apply(tvar(name)))
	}
}

// What a caller writes into a type that was found, what was found doesn't show, nor what is found again.
func TestFoundStays(t *testing.T) {
	for _, text := range samples() {
		a, b := readTwo(text)
		want := ask(a, b)
		s, is := match.Match(a, b)
		spoilFound(s, is)
		if got := say(s, is); got != want[0] {
			t.Errorf("%s: %s; want %s", text, got, want[0])
		}
		if got := ask(a, b); got != want {
			t.Errorf("%s: %q; want %q", text, got, want)
		}
	}
}

// No two lists that are handed out, or were handed in, lie in the same memory.
func TestFoundIsApart(t *testing.T) {
	for _, text := range samples() {
		a, b := roomyTwo(text)
		all := cells(cells(nil, a), b)
		for range 2 {
			s, _ := match.Match(a, b)
			for name, x := range s.Pairs() {
				again, _ := s.Get(name)
				all = cells(cells(all, x), again)
			}
			all = cells(all, s.Apply(a))
		}
		seen := map[*api.Type]bool{}
		for _, cell := range all {
			if seen[cell] {
				t.Errorf("%s: two lists share", text)
				break
			}
			seen[cell] = true
		}
	}
}

// An empty list that is handed in may have room: it is the caller's, and no answer has it.
func TestEmptyListsRoom(t *testing.T) {
	room := []api.Type{tvar("x"), tvar("y")}
	b := api.Type{Kind: api.TCon, Name: "T", Args: room[:0]}
	s, is := match.Match(tvar("a"), b)
	x, _ := s.Get("a")
	spoil(x)
	if got := say(s, is); got != "a = T" || room[0].Name != "x" || room[1].Name != "y" {
		t.Error(got, room)
	}
}

// What is found hangs on no call ahead of it.
func TestCallsAreApart(t *testing.T) {
	l := samples()
	for _, first := range l {
		want := ask(readTwo(first))
		for _, text := range l {
			ask(readTwo(text))
		}
		if got := ask(readTwo(first)); got != want {
			t.Errorf("%s: %q; want %q", first, got, want)
		}
	}
}

// Calls at the same time don't touch one another.
func TestCallsAtOnce(t *testing.T) {
	l := samples()
	a, b := readTwo(l[0])
	want := ask(a, b)
	done := make(chan [2]string)
	for range 8 {
		go func() {
			for _, text := range l {
				ask(readTwo(text))
			}
			done <- ask(a, b)
		}()
	}
	for range 8 {
		if got := <-done; got != want {
			t.Errorf("%q; want %q", got, want)
		}
	}
}
