package scheme_test

import (
	"strings"
	"testing"

	"paideia/scheme"
)

// canons holds Canon's answers against those that are asked for, by turns; these are the same as what they are made of.
func canons(t *testing.T, texts ...string) {
	t.Helper()
	for i := 0; i < len(texts); i += 2 {
		s := scheme.Canon(read(texts[i]))
		if got := say(s); got != texts[i+1] {
			t.Errorf("%s: %s; want %s", texts[i], got, texts[i+1])
		}
		if !scheme.Same(read(texts[i]), s) || !scheme.Same(s, read(texts[i])) {
			t.Errorf("%s: not the same as its Canon", texts[i])
		}
	}
}

func TestCanonNames(t *testing.T) {
	canons(t,
		". T", ". T",
		". T (U V) -> W", ". T (U V) -> W",
		"a . a", "a . a",
		"x . x", "a . a",
		"x y . x -> y", "a b . a -> b",
		"y x . x -> y", "a b . a -> b", // as they come in the type, not in Vars
		"a b . b -> a", "a b . a -> b",
		"b a . a -> b", "a b . a -> b",
		"a b c . c -> a -> b -> c", "a b c . a -> b -> c -> a", // a becomes b, b c, c a, at once
		"x y z . (z -> T y) -> x", "a b c . (a -> T b) -> c",
		"x y . x -> x -> y -> x", "a b . a -> a -> b -> a",
		"a1 z . T (U a1 z) z", "a b . T (U a b) b",
		"?1 . T", ". T",
	)
	var old, from, to []string
	for i := range 60 {
		name := "x" + scheme.Name(59-i)
		old, from, to = append(old, name), append([]string{name}, from...), append(to, scheme.Name(i))
	}
	canons(t, strings.Join(old, " ")+" . T "+strings.Join(from, " "), strings.Join(to, " ")+" . T "+strings.Join(to, " "))
	if to[25] != "z" || to[26] != "a1" || to[52] != "a2" {
		t.Error(to)
	}
}

// Vars that stand nowhere are left out; those that are named twice are there once.
func TestCanonLeavesOut(t *testing.T) {
	canons(t,
		"a . T", ". T",
		"a b c . b", "a . a",
		"a b c . c -> a", "a b . a -> b",
		"x x . x", "a . a",
		"x y x y . y -> x", "a b . a -> b",
		"a b a . b -> b", "a . a -> a",
		"x y x z z . Eq y => y -> x", "a b . Eq a => a -> b",
		"a b . Eq T => T", ". Eq T => T",
	)
}

// What is free keeps its name, and no other one gets it.
func TestCanonAndFree(t *testing.T) {
	canons(t,
		". a", ". a",
		". x -> y -> x", ". x -> y -> x",
		"x . a -> x", "b . a -> b",
		"x . x -> a", "b . b -> a",
		"x y . x -> b -> y", "a c . a -> b -> c",
		"x y . x -> a -> c -> y", "b d . b -> a -> c -> d",
		"x y z . x -> a -> y -> b -> z -> d", "c e f . c -> a -> e -> b -> f -> d",
		"x . Eq a => x", "b . Eq a => b", // free in the context alone
		"x y . (Eq a, Ord y) => x -> y", "b c . (Eq a, Ord c) => b -> c",
		"x . (Eq (T b a), Ord x) => T", "c . (Eq (T b a), Ord c) => T",
		"b . a -> b", "b . a -> b",
		"c . b -> c", "a . b -> a",
		"a . b -> a", "a . b -> a",
		"b c . a -> c -> b", "b c . a -> b -> c",
		"x . a' -> a1 -> x", "a . a' -> a1 -> a",
		"b . a -> T (b -> b)", "b . a -> T (b -> b)",
		"a x . b -> x", "a . b -> a", // a is a Var, but stands nowhere: it is not free
	)
	// past z, and with holes
	var all []string
	for i := range 53 {
		all = append(all, scheme.Name(i))
	}
	free := strings.Join(all[:26], " ")
	canons(t, "x9 y9 . T x9 "+free+" y9", "a1 b1 . T a1 "+free+" b1")
	free = strings.Join(all[1:27], " ") + " c1 " + strings.Join(all[30:52], " ")
	canons(t, "w9 x9 y9 z9 . T (U y9 z9) "+free+" x9 w9", "a b1 d1 a2 . T (U a b1) "+free+" d1 a2")
}

// Variables that swap names with one another.
func TestCanonSwaps(t *testing.T) {
	canons(t,
		"a b . T b a b", "a b . T a b a",
		"b a . T b a b", "a b . T a b a",
		"a b c . T b c a", "a b c . T a b c",
		"a b c . T c b a", "a b c . T a b c",
		"a b . (Eq a, Ord b) => b -> a", "a b . (Eq b, Ord a) => a -> b",
		"a b . (Eq a, Eq b) => b -> a", "a b . (Eq a, Eq b) => a -> b",
		"a b c . (Eq a, Ord b, Num c) => c -> b -> a", "a b c . (Eq c, Num a, Ord b) => a -> b -> c",
		"a c . b -> c -> a", "a c . b -> a -> c",
	)
}

// The order of the context: by the old names where variables are found in it, by the new ones where it is told.
func TestCanonContext(t *testing.T) {
	canons(t,
		"a . (Ord a, Eq a) => a", "a . (Eq a, Ord a) => a",
		"a . (Eq a, Eq a) => a", "a . Eq a => a",
		"x . (Ord x, Eq x, Ord x, Eq x) => T x", "a . (Eq a, Ord a) => T a",
		"a b . (Eq a, Eq b, Eq a) => b -> a", "a b . (Eq a, Eq b) => a -> b",
		". (Ord a, Eq b, Eq a, Ord a) => T", ". (Eq a, Eq b, Ord a) => T",
		". (Eq (a -> b), Eq T, Eq a) => T", ". (Eq a, Eq T, Eq (a -> b)) => T",
		// found in the type first
		"a b . Eq a => b", "a b . Eq b => a",
		"a b c . (Eq a, Eq b, Eq c) => c", "a b c . (Eq a, Eq b, Eq c) => a",
		"a b c . (Eq (T a), Eq (U b)) => c -> b", "a b c . (Eq (T c), Eq (U b)) => a -> b",
		// then in the context, sorted: by classes
		"a b . (Ord a, Eq b) => T", "a b . (Eq a, Ord b) => T",
		"a b c . (Z b, E c) => a", "a b c . (E b, Z c) => a",
		"x y z . (Show x, Eq y, Num z) => T", "a b c . (Eq a, Num b, Show c) => T",
		"x y . (Eqs x, Eq y) => T", "a b . (Eq a, Eqs b) => T",
		// by kinds, by constructors, by how many arguments
		"x y . (Eq (y -> y), Eq x) => T", "a b . (Eq a, Eq (b -> b)) => T",
		"x y . (Eq (T x), Eq y) => T", "a b . (Eq a, Eq (T b)) => T",
		"x y . (Eq (U x), Eq (T y)) => T", "a b . (Eq (T a), Eq (U b)) => T",
		"x y . (Eq (T x x), Eq (T y)) => T", "a b . (Eq (T a), Eq (T b b)) => T",
		// by the old names
		"x y . (Eq y, Eq x) => T", "a b . (Eq a, Eq b) => T",
		"x y . (Eq (T x U), Eq (T y V)) => T", "a b . (Eq (T a U), Eq (T b V)) => T",
		"y x . (Eq (T y U), Eq (T x V)) => T", "a b . (Eq (T a V), Eq (T b U)) => T",
		"x y . (Eq (T x y), Eq (T y x)) => T", "a b . (Eq (T a b), Eq (T b a)) => T",
		"x y z . (Eq (T z), Eq (T x y)) => T", "a b c . (Eq (T a), Eq (T b c)) => T",
		// told by the new ones
		"x y . (Eq x, Eq y) => y -> x", "a b . (Eq a, Eq b) => a -> b",
		"x y . (Eq (T x), Eq (T y)) => y", "a b . (Eq (T a), Eq (T b)) => a",
		"x y . (Eq (T x U), Eq (T y V)) => y -> x", "a b . (Eq (T a V), Eq (T b U)) => a -> b",
		"x . (Eq m, Eq x) => x", "a . (Eq a, Eq m) => a", // ahead of what is free, though it was behind it
		"x . (Eq b, Eq x) => a -> c", "d . (Eq b, Eq d) => a -> c",
		"a . (Eq b, Eq a) => c -> d -> T", "a . (Eq a, Eq b) => c -> d -> T",
	)
}
