package group_test

import (
	"testing"

	"paideia/api"
	"paideia/group"
)

// isGrouped asks for the groups of a text's definitions.
func isGrouped(t *testing.T, text string, want ...[]int) {
	t.Helper()
	if got := group.Groups(readBinds(text)); !sameGroups(got, want) {
		t.Errorf("%s: %d; want %d", text, got, want)
	}
}

func TestGroupsOfNothing(t *testing.T) {
	isGrouped(t, "")
	isGrouped(t, ";;")
	isGrouped(t, "data T = A; class C a where { m :: a; m = m }; instance C T where { m = m }")
	for _, l := range [][]api.Bind{nil, {}, readBinds("a = a")[:0]} {
		if got := group.Groups(l); len(got) > 0 {
			t.Error(got)
		}
	}
}

func TestGroups(t *testing.T) {
	isGrouped(t, "a = 1", []int{0})
	isGrouped(t, "a = a", []int{0})
	isGrouped(t, "a = 1; b = 1; c = 1", []int{0}, []int{1}, []int{2})
	isGrouped(t, "a = b; b = 1", []int{1}, []int{0})
	isGrouped(t, "a = b; b = c; c = d; d = 1", []int{3}, []int{2}, []int{1}, []int{0})
	isGrouped(t, "a = 1; b = a; c = b; d = c", []int{0}, []int{1}, []int{2}, []int{3})
	isGrouped(t, "a = d c b; b = c; c = 1; d = 1", []int{2}, []int{1}, []int{3}, []int{0})
	isGrouped(t, "a = d; b = 1; c = d; d = 1; e = 1", []int{1}, []int{3}, []int{0}, []int{2}, []int{4})
	isGrouped(t, "a = x y; b = z", []int{0}, []int{1})
}

func TestGroupsOfRings(t *testing.T) {
	isGrouped(t, "a = b; b = a", []int{0, 1})
	isGrouped(t, "a = c; b = a; c = b", []int{0, 1, 2})
	isGrouped(t, "even n = odd n; odd n = even n; x = even 1", []int{0, 1}, []int{2})
	isGrouped(t, "a = f 1; f x = g x; g x = f (h x); h x = i x; i x = x + h x", []int{3, 4}, []int{1, 2}, []int{0})
	isGrouped(t, "a = b; b = a c; c = d; d = c", []int{2, 3}, []int{0, 1})
	isGrouped(t, "a = b e; b = a; c = d; d = c; e = 1", []int{2, 3}, []int{4}, []int{0, 1})
	isGrouped(t, "(+) = (-); (-) = (+); a = 1 + 1; b = a", []int{0, 1}, []int{2}, []int{3})
}

// What is bound within joins nothing.
func TestGroupsOfFreeOnes(t *testing.T) {
	isGrouped(t, "a b = b; b = a", []int{0}, []int{1})
	isGrouped(t, "a b = b; b = 1", []int{0}, []int{1})
	isGrouped(t, "a = let { b = 1 } in b; b = a", []int{0}, []int{1})
	isGrouped(t, "a = (let { b = 1 } in b) b; b = a", []int{0, 1})
	isGrouped(t, "a = case 1 of { C b -> b }; b = a", []int{0}, []int{1})
	isGrouped(t, "a = case 1 of { C b -> b; _ -> b }; b = a", []int{0, 1})
	isGrouped(t, "a = let { f = \\x -> b x } in f; b = a", []int{0, 1})
}

// A signed one is a group for itself: it waits for what it needs, and none waits for it.
func TestGroupsOfSigned(t *testing.T) {
	isGrouped(t, "a :: Int; a = 1", []int{0})
	isGrouped(t, "a :: Int; a = a", []int{0})
	isGrouped(t, "a = b; b :: Int; b = 1", []int{0}, []int{1})
	isGrouped(t, "a :: Int; a = b; b = 1", []int{1}, []int{0})
	isGrouped(t, "a :: Int; a = b; b = a", []int{1}, []int{0})
	isGrouped(t, "a = b; b = a; b :: Int", []int{0}, []int{1})
	isGrouped(t, "a :: Int; a = d; b = a; c = 1; d = c", []int{1}, []int{2}, []int{3}, []int{0})
	isGrouped(t, "a = b; b = 1; c :: Int; c = a; d = c", []int{1}, []int{0}, []int{2}, []int{3})
}

func TestGroupsAllSigned(t *testing.T) {
	isGrouped(t, "a :: a; b :: a; c :: a; a = c b a; b = a b c; c = b", []int{0}, []int{1}, []int{2})
	isGrouped(t, "c :: a; b :: a; a :: a; a = b; b = c; c = 1", []int{0}, []int{1}, []int{2})
}

// Where one of a ring is signed it is none any more; the rest may be another one.
func TestGroupsOfRingsWithSigned(t *testing.T) {
	isGrouped(t, "a = b; b = c; c = a; a :: Int", []int{2}, []int{1}, []int{0})
	isGrouped(t, "a = b; b = c; c = a; b :: Int", []int{0}, []int{2}, []int{1})
	isGrouped(t, "a = b; b = c; c = a; c :: Int", []int{1}, []int{0}, []int{2})
	isGrouped(t, "a = b; b = a c; c = d; d = b; d :: Int", []int{2}, []int{0, 1}, []int{3})
	isGrouped(t, "a = b c; b = c a; c = a b; c :: Int", []int{0, 1}, []int{2})
	isGrouped(t, "a = b c; b = c a; c = a b; c :: Int; a :: Int", []int{1}, []int{0}, []int{2})
	isGrouped(t, "a = b; b = d; c = a; d = c; b :: Int; d :: Int", []int{0}, []int{1}, []int{2}, []int{3})
	isGrouped(t, "a = d; b = a; c = b; d = c; b :: Int; d :: Int", []int{0}, []int{1}, []int{2}, []int{3})
	isGrouped(t, "a = d; b = c; c = b a; d = c; d :: Int; b :: Int", []int{0}, []int{2}, []int{1}, []int{3})
}

// A name that stands twice is that of both: whoever needs it waits for both, and they need not be in one group.
func TestGroupsOfTwice(t *testing.T) {
	isGrouped(t, "a = 1; a = 2", []int{0}, []int{1})
	isGrouped(t, "a = b; b = 1; b = 2", []int{1}, []int{2}, []int{0})
	isGrouped(t, "a = a; a = 1", []int{1}, []int{0})
	isGrouped(t, "a = a; a = a", []int{0, 1})
	isGrouped(t, "a = b; b = a; b = 1", []int{2}, []int{0, 1})
	isGrouped(t, "a = b; b = 1; b = a", []int{1}, []int{0, 2})
	isGrouped(t, "c = b; a = b; b = a; b = a", []int{1, 2, 3}, []int{0})
	isGrouped(t, "b = a; c = 1; a = 1; a = 2; d = 1", []int{1}, []int{2}, []int{3}, []int{0}, []int{4})
	isGrouped(t, "b = 1; a = b; b = 2; b :: Int", []int{0}, []int{2}, []int{1}) // the signature is the first one's
	isGrouped(t, "a = b; b = 1; b = a; b :: Int", []int{0, 2}, []int{1})
}

// What can come next comes as soon as it can, by way of a name too: ahead of all with a greater one.
func TestGroupsLeastFirst(t *testing.T) {
	isGrouped(t, "a = e; b = d; c = 1; d = 1; e = 1; f = 1", []int{2}, []int{3}, []int{1}, []int{4}, []int{0}, []int{5})
	isGrouped(t, "a = b; b = c; c = 1; d = 1", []int{2}, []int{1}, []int{0}, []int{3})
	isGrouped(t, "a = f; b = c; c = b; d = e; e = d; f = 1", []int{1, 2}, []int{3, 4}, []int{5}, []int{0})
	isGrouped(t, "a = f; f = c; c = f d; d = 1; b = 1; e = 1", []int{3}, []int{1, 2}, []int{0}, []int{4}, []int{5})
}

// Groups is Order of what Needs tells of each.
func TestGroupsByNeedsAndOrder(t *testing.T) {
	for _, text := range []string{
		"a = b; b = a; c = a", "a = a b; b = c; c :: Int; c = a", "a = b; b = 1; b = a", "a = \\b -> b c; b = a; c = b; d :: Int; d = c; e = d f; f = e",
	} {
		l := readBinds(text)
		var needs [][]int
		for i := range l {
			needs = append(needs, group.Needs(l, i))
		}
		isGrouped(t, text, group.Order(len(l), needs)...)
	}
}
