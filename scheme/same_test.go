package scheme_test

import (
	"strings"
	"testing"

	"paideia/scheme"
)

// pairs asks Same of texts such as `a . a ~ b . b`, both ways round; and each of itself.
func pairs(t *testing.T, want bool, texts ...string) {
	t.Helper()
	for _, text := range texts {
		x, y, found := strings.Cut(text, " ~ ")
		if !found {
			panic(text)
		}
		if scheme.Same(read(x), read(y)) != want || scheme.Same(read(y), read(x)) != want {
			t.Errorf("%s: not %t", text, want)
		}
		if !scheme.Same(read(x), read(x)) || !scheme.Same(read(y), read(y)) {
			t.Errorf("%s: not the same as itself", text)
		}
	}
}

func TestSame(t *testing.T) {
	pairs(t, true,
		". T ~ . T",
		". a ~ . a",
		"a . a ~ a . a",
		// but for names
		"a . a ~ b . b",
		"a b . a -> b ~ b a . b -> a",
		"a b . a -> b ~ x y . x -> y",
		"a b . a -> b ~ a b . b -> a",
		"a b c . T a b c ~ a b c . T c a b",
		"x . (Eq x, Ord x) => x ~ y . (Eq y, Ord y) => y",
		"a b . (Eq a, Ord b) => a -> b ~ a b . (Ord a, Eq b) => b -> a",
		"x . x -> a ~ b . b -> a",
		"x . x -> a ~ y . y -> a",
		// but for the order of Vars, and how often they are there
		"a b . a -> b ~ b a . a -> b",
		"a b . a -> b ~ a b a b . a -> b",
		"a . a ~ a a . a",
		// but for Vars that stand nowhere
		"a b . a ~ a . a",
		"a b . T ~ . T",
		"x y z . T y ~ a . T a",
		"a x . b -> x ~ a . b -> a",
		// but for the order of the context, and how often each is there
		"a . (Eq a, Ord a) => a ~ a . (Ord a, Eq a) => a",
		"a . (Eq a, Eq a) => a ~ a . Eq a => a",
		"a b . (Eq a, Eq b) => a -> b ~ a b . (Eq b, Eq a) => a -> b",
		"a b . (Ord b, Eq (T a), Eq b) => a -> b ~ c d . (Eq d, Eq (T c), Eq d, Ord d) => c -> d",
		". (Eq a, Eq b) => T ~ . (Eq b, Eq a) => T",
		"a b . (Eq a, Ord b) => T ~ a b . (Ord a, Eq b) => T",
	)
}

func TestNotSame(t *testing.T) {
	pairs(t, false,
		". T ~ . U",
		". T ~ . T U",
		"a . a ~ . T",
		"a . a -> a ~ a . T a a",
		"a b . a -> b ~ a . a -> a",
		"a b . T a b a ~ a b . T a b b",
		"a b . T a b a ~ a b . T a a b",
		"a b . (a -> b) -> a ~ a b . a -> b -> a",
		// what is free is free, and has its name
		". a ~ . b",
		"a . a ~ . a",
		"x . x ~ . a",
		"a . a -> b ~ a b . a -> b",
		"a . a -> b ~ b . a -> b",
		"x . x -> a ~ x . x -> b",
		"x . x -> a ~ x y . x -> y",
		". Eq a => T ~ . Eq b => T",
		". Eq a => T ~ a . Eq a => T",
		"x . (Eq x, Ord a) => x ~ x . (Eq x, Ord b) => x",
		// contexts
		"a . Eq a => a ~ a . a",
		"a . Eq a => a ~ a . Ord a => a",
		"a . Eq a => a ~ a . Eqs a => a",
		"a . (Eq a, Ord a) => a ~ a . Eq a => a",
		"a . (Eq a, Ord a) => a ~ a . (Eq a, Num a) => a",
		"a . (Eq a, Ord a) => a ~ a . (Ord a, Num a) => a",
		"a b . Eq a => a -> b ~ a b . Eq b => a -> b",
		"a b . (Eq a, Ord b) => a -> b ~ a b . (Ord a, Eq b) => a -> b",
		"a . Eq (T a) => a ~ a . Eq a => a",
		"a b . Eq b => a ~ a . Eq a => a",
		"a b . Eq (T a b) => a ~ a b . Eq (T b a) => a",
		"a b . (Eq a, Ord a) => T ~ a b . (Eq a, Ord b) => T",
		". Eq T => T ~ . T",
		". Eq T => T ~ . Eq U => T",
		// variables that stand in the context alone are found in the order of their old names
		"x y . (Eq (T x U), Eq (T y V)) => T ~ y x . (Eq (T y U), Eq (T x V)) => T",
	)
}

func TestFresh(t *testing.T) {
	for _, x := range []struct {
		text string
		from int
		want string
		next int
	}{
		{". T", 0, ". T", 0},
		{". a", 0, ". a", 0},
		{". Eq a => a", 5, ". Eq a => a", 5},
		{"a . a", 0, "?0 . ?0", 1},
		{"a . a", 1, "?1 . ?1", 2},
		{"a . a", 41, "?41 . ?41", 42},
		{"a . a -> b -> a", 9, "?9 . ?9 -> b -> ?9", 10},
		{"a b . a -> b", 0, "?0 ?1 . ?0 -> ?1", 2},
		{"a b . a -> b", 9, "?9 ?10 . ?9 -> ?10", 11},
		{"a b . a -> b", 99, "?99 ?100 . ?99 -> ?100", 101},
		{"a b . a -> b", 1 << 40, "?1099511627776 ?1099511627777 . ?1099511627776 -> ?1099511627777", 1<<40 + 2},
		// in the order of Vars, not as they come
		{"a b . b -> a", 0, "?0 ?1 . ?1 -> ?0", 2},
		{"b a . b -> a", 0, "?0 ?1 . ?0 -> ?1", 2},
		{"z m a . T a m z", 3, "?3 ?4 ?5 . T ?5 ?4 ?3", 6},
		// those that stand nowhere, too
		{"x a . a", 0, "?0 ?1 . ?1", 2},
		{"a x . a", 0, "?0 ?1 . ?0", 2},
		{"x y . T", 7, "?7 ?8 . T", 9},
		// of a name that is there twice the first counts
		{"a a . a", 0, "?0 ?1 . ?0", 2},
		{"a b a b c . T a b c", 0, "?0 ?1 ?2 ?3 ?4 . T ?0 ?1 ?4", 5},
		// the context is as it was but for names
		{"a . Eq a => T", 0, "?0 . Eq ?0 => T", 1},
		{"a b . (Ord b, Eq a, Ord b) => a -> b", 0, "?0 ?1 . (Ord ?1, Eq ?0, Ord ?1) => ?0 -> ?1", 2},
		{"b . (Eq a, Eq b) => c -> b", 4, "?4 . (Eq a, Eq ?4) => c -> ?4", 5},
		{"a b . (Eq (T b a), Eq (a -> c)) => (b -> T a) -> c", 0, "?0 ?1 . (Eq (T ?1 ?0), Eq (?0 -> c)) => (?1 -> T ?0) -> c", 2},
		// another one's name that begins alike stays
		{"a . a -> a' -> a1 -> aa", 0, "?0 . ?0 -> a' -> a1 -> aa", 1},
	} {
		s, next := scheme.Fresh(read(x.text), x.from)
		if got := say(s); got != x.want || next != x.next {
			t.Errorf("%s, from %d: %s, %d; want %s, %d", x.text, x.from, got, next, x.want, x.next)
		}
	}
}

// Names that Fresh has given are renamed again, at once.
func TestFreshOfFresh(t *testing.T) {
	s, next := scheme.Fresh(read("a b c . (Eq a, Ord b) => c -> a"), 0)
	again, last := scheme.Fresh(s, next)
	if is(t, again, "?3 ?4 ?5 . (Eq ?3, Ord ?4) => ?5 -> ?3"); last != 6 {
		t.Error(last)
	}
	moved, _ := scheme.Fresh(s, 1) // ?0 is ?1 now, ?1 ?2
	is(t, moved, "?1 ?2 ?3 . (Eq ?1, Ord ?2) => ?3 -> ?1")
	stays, _ := scheme.Fresh(s, 0)
	is(t, stays, "?0 ?1 ?2 . (Eq ?0, Ord ?1) => ?2 -> ?0")
	is(t, scheme.Canon(again), "a b c . (Eq b, Ord c) => a -> b")
	if !scheme.Same(s, again) {
		t.Error("not the same")
	}
}
