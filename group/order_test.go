package group_test

import (
	"math"
	"slices"
	"testing"

	"paideia/group"
)

func sameGroups(a, b [][]int) bool { return slices.EqualFunc(a, b, slices.Equal) }

// isOrder asks for the order of as many as there are lists of needs.
func isOrder(t *testing.T, needs [][]int, want ...[]int) {
	t.Helper()
	isOrderOf(t, len(needs), needs, want...)
}

func isOrderOf(t *testing.T, n int, needs [][]int, want ...[]int) {
	t.Helper()
	if got := group.Order(n, needs); !sameGroups(got, want) {
		t.Errorf("%d, %d: %d; want %d", n, needs, got, want)
	}
}

func TestOrderOfNone(t *testing.T) {
	for _, n := range []int{0, -1, -2, -7, math.MinInt} {
		for _, needs := range [][][]int{nil, {}, {nil}, {{0}}, {{1}, {0}}, {{2}, nil, {1}}} {
			isOrderOf(t, n, needs)
		}
	}
}

func TestOrderWithoutNeeds(t *testing.T) {
	isOrder(t, [][]int{nil}, []int{0})
	isOrder(t, [][]int{nil, {}, nil}, []int{0}, []int{1}, []int{2})
	isOrderOf(t, 3, nil, []int{0}, []int{1}, []int{2})
	isOrderOf(t, 3, [][]int{}, []int{0}, []int{1}, []int{2})
}

func TestOrderOfOne(t *testing.T) {
	isOrder(t, [][]int{{0}}, []int{0})
	isOrder(t, [][]int{{0, 0}}, []int{0})
	isOrder(t, [][]int{{1, -1}}, []int{0})
}

// A group stands behind all that it needs.
func TestOrderBehindNeeds(t *testing.T) {
	isOrder(t, [][]int{{1}, nil}, []int{1}, []int{0})
	isOrder(t, [][]int{nil, {0}}, []int{0}, []int{1})
	isOrder(t, [][]int{{2}, {0}, nil}, []int{2}, []int{0}, []int{1})
	isOrder(t, [][]int{{1, 2}, nil, nil}, []int{1}, []int{2}, []int{0})
	isOrder(t, [][]int{{1, 2}, {2}, nil}, []int{2}, []int{1}, []int{0})
	isOrder(t, [][]int{{2, 1}, nil, {1}}, []int{1}, []int{2}, []int{0})
	isOrder(t, [][]int{{3}, {3}, nil, {2}}, []int{2}, []int{3}, []int{0}, []int{1})
	isOrder(t, [][]int{{3, 4}, {0}, {0, 1}, nil, {3}}, []int{3}, []int{4}, []int{0}, []int{1}, []int{2})
}

func TestOrderOfRows(t *testing.T) {
	isOrder(t, [][]int{{1}, {2}, {3}, {4}, nil}, []int{4}, []int{3}, []int{2}, []int{1}, []int{0})
	isOrder(t, [][]int{nil, {0}, {1}, {2}, {3}}, []int{0}, []int{1}, []int{2}, []int{3}, []int{4})
	isOrder(t, [][]int{{2}, {0}, {4}, {1}, nil}, []int{4}, []int{2}, []int{0}, []int{1}, []int{3})
	isOrder(t, [][]int{{1, 2, 3}, {2, 3}, {3}, nil}, []int{3}, []int{2}, []int{1}, []int{0})
}

func TestOrderNeedsOfOneself(t *testing.T) {
	isOrder(t, [][]int{{0}, {1}, {2}}, []int{0}, []int{1}, []int{2})
	isOrder(t, [][]int{{0, 1}, {1}}, []int{1}, []int{0})
	isOrder(t, [][]int{{0, 2, 0}, {1, 0}, {2, 2}}, []int{2}, []int{0}, []int{1})
	isOrder(t, [][]int{{1, 0}, {1, 0}}, []int{0, 1})
}

func TestOrderNeedsTwice(t *testing.T) {
	isOrder(t, [][]int{{1, 1}, nil}, []int{1}, []int{0})
	isOrder(t, [][]int{{2, 2, 2}, {0, 2, 0}, nil, {1, 1}}, []int{2}, []int{0}, []int{1}, []int{3})
	isOrder(t, [][]int{{1, 1}, {0, 0, 0}, {0, 1, 0, 1}}, []int{0, 1}, []int{2})
	isOrder(t, [][]int{{1, 2, 1, 2}, {0, 0}, {3, 3}, {2, 2}}, []int{2, 3}, []int{0, 1})
}

// A need of a place that is none is no need, wherever it stands among the others.
func TestOrderNeedsOfNoPlace(t *testing.T) {
	isOrder(t, [][]int{{-1}, {2}, {}}, []int{0}, []int{2}, []int{1})
	isOrder(t, [][]int{{3}, {4}, {math.MaxInt}}, []int{0}, []int{1}, []int{2})
	isOrder(t, [][]int{{math.MinInt, 1, -1}, {3, 2, 4}, {math.MaxInt}}, []int{2}, []int{1}, []int{0})
	isOrder(t, [][]int{{-1, 1}, {2, 0}}, []int{0, 1})
	isOrder(t, [][]int{{-1}, {-1}, {2}, {4}}, []int{0}, []int{1}, []int{2}, []int{3})
	isOrder(t, [][]int{{2}, {2}}, []int{0}, []int{1})
}

func TestOrderOfFewerLists(t *testing.T) {
	isOrderOf(t, 3, [][]int{{2}}, []int{1}, []int{2}, []int{0})
	isOrderOf(t, 4, [][]int{{3}, {0}}, []int{2}, []int{3}, []int{0}, []int{1})
	isOrderOf(t, 4, [][]int{{1, 4}, {0, 3}}, []int{2}, []int{3}, []int{0, 1})
	isOrderOf(t, 2, [][]int{nil}, []int{0}, []int{1})
}

// Lists past n are nobody's, and so are needs of them.
func TestOrderOfMoreLists(t *testing.T) {
	isOrderOf(t, 1, [][]int{{1}, {0}}, []int{0})
	isOrderOf(t, 2, [][]int{{2}, {0}, {1}}, []int{0}, []int{1})
	isOrderOf(t, 2, [][]int{{1, 2}, nil, {0}, {0}}, []int{1}, []int{0})
	isOrderOf(t, 2, [][]int{nil, nil, {7}, {-7}, {2}}, []int{0}, []int{1})
}

func TestOrderOfRings(t *testing.T) {
	isOrder(t, [][]int{{1}, {0}}, []int{0, 1})
	isOrder(t, [][]int{{1}, {2}, {0}}, []int{0, 1, 2})
	isOrder(t, [][]int{{2}, {0}, {1}}, []int{0, 1, 2})
	isOrder(t, [][]int{{4}, {3}, {0}, {2}, {1}}, []int{0, 1, 2, 3, 4})
	isOrder(t, [][]int{{1, 2}, {0, 2}, {0, 1}}, []int{0, 1, 2})
	isOrder(t, [][]int{{2}, nil, {0}}, []int{0, 2}, []int{1})
	isOrder(t, [][]int{nil, {2}, {1}}, []int{0}, []int{1, 2})
	isOrder(t, [][]int{{3}, {2}, {1}, {0}}, []int{0, 3}, []int{1, 2})
}

// Two that need each other by way of many others, some of them by way of one another.
func TestOrderOfRingsByWays(t *testing.T) {
	isOrder(t, [][]int{{3}, {0}, {1}, {4}, {5}, {2}}, []int{0, 1, 2, 3, 4, 5})
	isOrder(t, [][]int{{1}, {2, 3}, {0}, {0}}, []int{0, 1, 2, 3})
	isOrder(t, [][]int{{1}, {0, 2}, {3, 1}, {2}}, []int{0, 1, 2, 3})
	isOrder(t, [][]int{{1}, {2}, {1, 3}, {0}}, []int{0, 1, 2, 3})
	isOrder(t, [][]int{{1}, {2}, {3, 0}, {1}}, []int{0, 1, 2, 3})
	isOrder(t, [][]int{{1, 3}, {2}, {0}, {2}}, []int{0, 1, 2, 3})
	isOrder(t, [][]int{{1, 3}, {2}, {0}, {4}, {3, 1}}, []int{0, 1, 2, 3, 4})
	isOrder(t, [][]int{{1}, {2, 4}, {3}, {1}, {5}, {0, 5}}, []int{0, 1, 2, 3, 4, 5})
}

// Only those that need each other both ways are in one group.
func TestOrderOfRingsApart(t *testing.T) {
	isOrder(t, [][]int{{1}, {0, 2}, {3}, {2}}, []int{2, 3}, []int{0, 1})
	isOrder(t, [][]int{{1}, {0}, {3, 0}, {2}}, []int{0, 1}, []int{2, 3})
	isOrder(t, [][]int{{1, 2}, {0}, {3}, {4}, {2}}, []int{2, 3, 4}, []int{0, 1})
	isOrder(t, [][]int{{1}, {2, 4}, {0}, {0}, {5}, {4}, {3}}, []int{4, 5}, []int{0, 1, 2}, []int{3}, []int{6})
	isOrder(t, [][]int{{2}, {0}, {3, 4}, {2}, nil}, []int{4}, []int{2, 3}, []int{0}, []int{1})
	isOrder(t, [][]int{{1}, {2}, {1}, {0}}, []int{1, 2}, []int{0}, []int{3})
	isOrder(t, [][]int{{1, 2}, nil, {1}, {2, 1, 0}}, []int{1}, []int{2}, []int{0}, []int{3})
	isOrder(t, [][]int{{3}, {0}, {0}, {1, 2}, {3, 5}, {4}, {5}}, []int{0, 1, 2, 3}, []int{4, 5}, []int{6})
}

// Of those that could come next, that with the least one comes, be it ahead of what came or behind it.
func TestOrderLeastFirst(t *testing.T) {
	isOrder(t, [][]int{{4}, nil, {4}, nil, nil}, []int{1}, []int{3}, []int{4}, []int{0}, []int{2})
	isOrder(t, [][]int{{1}, nil, {3}, nil}, []int{1}, []int{0}, []int{3}, []int{2})
	isOrder(t, [][]int{{2}, nil, nil, nil}, []int{1}, []int{2}, []int{0}, []int{3})
	isOrder(t, [][]int{{1}, {2}, nil, nil, nil}, []int{2}, []int{1}, []int{0}, []int{3}, []int{4})
	isOrder(t, [][]int{{5}, {4}, {3}, nil, nil, nil}, []int{3}, []int{2}, []int{4}, []int{1}, []int{5}, []int{0})
	isOrder(t, [][]int{{3, 5}, {5, 4}, {4}, nil, nil, nil}, []int{3}, []int{4}, []int{2}, []int{5}, []int{0}, []int{1})
}

// A group's place is its least one's, whatever the others are and wherever they are met.
func TestOrderLeastOfGroups(t *testing.T) {
	isOrder(t, [][]int{{5}, {2}, {1}, nil, nil, {0}}, []int{0, 5}, []int{1, 2}, []int{3}, []int{4})
	isOrder(t, [][]int{{4}, {3}, nil, {1}, nil}, []int{1, 3}, []int{2}, []int{4}, []int{0})
	isOrder(t, [][]int{{6}, {5}, {4}, nil, {2}, {1}, nil}, []int{1, 5}, []int{2, 4}, []int{3}, []int{6}, []int{0})
	isOrder(t, [][]int{{3}, {5}, nil, nil, nil, {1, 4}}, []int{2}, []int{3}, []int{0}, []int{4}, []int{1, 5})
	isOrder(t, [][]int{{2}, {3}, {0, 4}, {1, 4}, nil, nil}, []int{4}, []int{0, 2}, []int{1, 3}, []int{5})
}

// One that waits for several comes behind the last of them, and not before.
func TestOrderOfSeveralNeeds(t *testing.T) {
	isOrder(t, [][]int{{1, 3}, nil, nil, nil, nil}, []int{1}, []int{2}, []int{3}, []int{0}, []int{4})
	isOrder(t, [][]int{{3, 1}, nil, nil, {4, 2}, nil}, []int{1}, []int{2}, []int{4}, []int{3}, []int{0})
	isOrder(t, [][]int{{1, 4}, {0, 6}, nil, nil, nil, {0}, nil}, []int{2}, []int{3}, []int{4}, []int{6}, []int{0, 1}, []int{5})
}

func TestOrderRising(t *testing.T) {
	for _, needs := range [][][]int{{{3}, {0}, {1}, {2}}, {{1}, {2}, {3}, {0}}, {{2}, {3}, {1}, {0}}, {{3}, {2}, {0}, {1}}, {{3, 2, 1}, {0}, {0}, {0}}, {{3}, {3}, {3}, {2, 1, 0}}} {
		isOrder(t, needs, []int{0, 1, 2, 3})
	}
}
