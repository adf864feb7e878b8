package group_test

import (
	"math"
	"slices"
	"testing"

	"paideia/api"
	"paideia/group"
	"paideia/parser"
)

func readBinds(text string) []api.Bind {
	p, err := parser.Program([]byte(text))
	if err != nil {
		panic(text + ": " + err.Error())
	}
	return p.Binds
}

// doesNeed asks for what the first definition of a text needs.
func doesNeed(t *testing.T, text string, want ...int) {
	t.Helper()
	if got := group.Needs(readBinds(text), 0); !slices.Equal(got, want) {
		t.Errorf("%s: %d; want %d", text, got, want)
	}
}

// doNeed asks for what each definition of a text needs, one by one.
func doNeed(t *testing.T, text string, want ...[]int) {
	t.Helper()
	l := readBinds(text)
	if len(l) != len(want) {
		t.Fatalf("%s: %d definitions; want %d", text, len(l), len(want))
	}
	for i, w := range want {
		if got := group.Needs(l, i); !slices.Equal(got, w) {
			t.Errorf("%s, %d: %d; want %d", text, i, got, w)
		}
	}
}

func TestNeeds(t *testing.T) {
	doesNeed(t, "a = 1")
	doesNeed(t, "a = 1; b = a")
	doesNeed(t, "a = b; b = 1", 1)
	doesNeed(t, "a = f b C; b = 1; c = 2; f x = x", 1, 3)
	doesNeed(t, "a = \\x -> b x; b = 1; x = 1", 1)
	doesNeed(t, "a x y = b x y; x = 1; b = 1; y = 1", 2)
	doesNeed(t, "a = if b then c else d; d = 1; c = 1; b = 1", 1, 2, 3)
	doNeed(t, "a = b c; b = c; c = 1; d = a 1", []int{1, 2}, []int{2}, nil, []int{0})
	doNeed(t, "a = b; b = c; c = a", []int{1}, []int{2}, []int{0})
}

// What is needed by what is needed is not needed itself.
func TestNeedsAtOnceAlone(t *testing.T) {
	doesNeed(t, "a = b; b = c; c = d; d = b", 1)
	doNeed(t, "a = 1; b = a; c = b; d = c", nil, []int{0}, []int{1}, []int{2})
}

func TestNeedsOfOneself(t *testing.T) {
	doesNeed(t, "a = a", 0)
	doesNeed(t, "a x = a x", 0)
	doesNeed(t, "a = f a b; b = 1; f = 1", 0, 1, 2)
	doNeed(t, "b = 1; a = a b; c = \\a -> c a", nil, []int{0, 1}, []int{2})
}

func TestNeedsOnceEach(t *testing.T) {
	doesNeed(t, "a = b b; b = 1", 1)
	doesNeed(t, "a = a a (a a)", 0)
	doesNeed(t, "a = b (\\x -> b x c) c b; b = 1; c = 1", 1, 2)
	doesNeed(t, "a = case b of { C -> b c; D -> c b }; b = 1; c = 1", 1, 2)
	doesNeed(t, "a = let { x = b; y = b } in b; b = 1", 1)
}

// By place, not as they come in the body.
func TestNeedsByPlace(t *testing.T) {
	doesNeed(t, "a = d c b; b = 1; c = 1; d = 1", 1, 2, 3)
	doesNeed(t, "a = c d b a; d = 1; b = 1; c = 1", 0, 1, 2, 3)
	doNeed(t, "c = 1; b = 1; a = a b c; d = a d c b", nil, nil, []int{0, 1, 2}, []int{0, 1, 2, 3})
}

func TestNeedsOfOperators(t *testing.T) {
	doesNeed(t, "a = 1 + b; b = 1; (+) x y = x; (-) = (+)", 1, 2)
	doesNeed(t, "(+) x y = x - y; (-) x y = y + x; z = 1", 1)
	doesNeed(t, "a = (*); (*) = (==)", 1)
	doesNeed(t, "a (+) = 1 + b; b = 1; (+) = b", 1)
}

// What is bound within is not needed; what is free in another part is.
func TestNeedsOfFreeOnes(t *testing.T) {
	doesNeed(t, "a = \\b -> b; b = 1")
	doesNeed(t, "a b = b; b = 1")
	doesNeed(t, "a a = a")
	doesNeed(t, "a = (\\b -> b) b; b = 1", 1)
	doesNeed(t, "a = b (\\b -> b); b = 1", 1)
	doesNeed(t, "a = let { b = 1 } in b; b = 1")
	doesNeed(t, "a = let { b = c; c = b } in b c; b = 1; c = 1")
	doesNeed(t, "a = let { b = c } in b c; b = 1; c = 1", 2)
	doesNeed(t, "a = (let { b = 1 } in b) b; b = 1", 1)
	doesNeed(t, "a = let { a = 1 } in a")
	doesNeed(t, "a = case c of { C b -> b; c -> c }; b = 1; c = 1", 2)
	doesNeed(t, "a = case 1 of { C b -> b; D -> b }; b = 1", 1)
	doesNeed(t, "a = case 1 of { b -> c; C b _ -> d }; b = 1; c = 1; d = 1", 2, 3)
	doesNeed(t, "a = case 1 of { _ -> _b }; _b = 1", 1)
	doesNeed(t, "a = let { x = \\y -> b y } in \\z -> c (d z) x; b = 1; c = 1; d = 1", 1, 2, 3)
}

// A signed one is needed by none; what it needs itself is told like that of any other.
func TestNeedsOfSigned(t *testing.T) {
	doesNeed(t, "a = b; b :: Int; b = 1")
	doesNeed(t, "a = d c b; b = 1; c = 1; d = 1; c :: Int", 1, 3)
	doesNeed(t, "a :: Int; a = b c a; b = 1; c = 1", 1, 2)
	doesNeed(t, "a :: Int; a = a")
	doesNeed(t, "a :: Int; a = b; b :: Int; b = a")
	doesNeed(t, "a = a b; b :: b -> a; b = a", 0)
	doNeed(t, "a = b; b = c; c :: Int; c = a b", []int{1}, nil, []int{0, 1})
	doNeed(t, "a :: a; b :: a; c :: a; a = a b c; b = a b c; c = a b c", nil, nil, nil)
}

// A signature within a body is another one's.
func TestNeedsOfSignedWithin(t *testing.T) {
	doesNeed(t, "a = (let { b :: Int; b = 1 } in b) b; b = 1", 1)
	doesNeed(t, "a = let { c :: Int; c = b } in c; b = 1; c = 1", 1)
}

func TestNeedsOfNobodys(t *testing.T) {
	doesNeed(t, "a = x")
	doesNeed(t, "a = x + y b z; b = 1", 1)
	doesNeed(t, "a = b'; b = 1")
	doesNeed(t, "a = ab _a; b = 1")
	doesNeed(t, "a = B C; b = 1; c = 1")
	doesNeed(t, "a = 1 'b'; b = 1")
	doesNeed(t, "a = case 1 of { B -> 1 }; b = 1")
}

// A name that stands twice is that of both; a signature is the first one's.
func TestNeedsOfTwice(t *testing.T) {
	doesNeed(t, "a = b; b = 1; b = 2", 1, 2)
	doesNeed(t, "a = c b; b = 1; c = 1; b = 2; c = 3; b = 4", 1, 2, 3, 4, 5)
	doesNeed(t, "a = a; a = 1", 0, 1)
	doesNeed(t, "a = b; b = 1; b = 2; b :: Int", 2)
	doesNeed(t, "a = b c; c = 1; b :: Int; b = 1; c = 1; b = 2; b = 3", 1, 3, 4, 5)
	doNeed(t, "a = 1; a = a; b = a; a :: Int", nil, []int{1}, []int{1})
}

// The list is what it is alone: what stands behind its length, or ahead of its beginning, is not in it.
func TestNeedsOfAPiece(t *testing.T) {
	l := readBinds("z = 1; a = z b c d; b = 1; c = 1; d = 1; a = 1")
	for _, c := range []struct{ from, to, at, want int }{{0, 6, 1, 4}, {0, 5, 1, 4}, {0, 4, 1, 3}, {0, 2, 1, 1}, {1, 6, 0, 3}, {1, 4, 0, 2}, {1, 2, 0, 0}, {1, 1, 0, 0}} {
		if got := group.Needs(l[c.from:c.to], c.at); len(got) != c.want {
			t.Errorf("%d to %d: %d; want %d of them", c.from, c.to, got, c.want)
		}
	}
}

func TestNeedsOfNoPlace(t *testing.T) {
	l := readBinds("a = a b c; b = a b c; c = a b c")
	for _, i := range []int{math.MinInt, -3, -2, -1, 3, 4, 5, math.MaxInt} {
		if got := group.Needs(l, i); len(got) > 0 {
			t.Errorf("%d: %d", i, got)
		}
	}
	for _, i := range []int{math.MinInt, -1, 0, 1, math.MaxInt} {
		for _, l := range [][]api.Bind{nil, {}, l[:0], l[3:], l[1:1]} {
			if got := group.Needs(l, i); len(got) > 0 {
				t.Errorf("%d of nothing: %d", i, got)
			}
		}
	}
}
