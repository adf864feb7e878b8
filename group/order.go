package group

import (
	"container/heap"
	"slices"
)

// orderer tells rings, each behind all that it needs.
type orderer struct {
	members [][]int // by ring: those of it that are told, rising
	users   [][]int // by ring: the rings that need it, each as often as it does
	waiting []int   // by ring: how many of its needs are still to come
	ready   []int   // a heap: the rings that could come next
}

// order puts a graph's first n nodes in groups. What stands behind them joins them, but is not told.
func order(n int, needs [][]int) [][]int {
	ring, count := rings(needs)
	o := &orderer{members: make([][]int, count), users: make([][]int, count), waiting: make([]int, count)}
	for node, r := range ring {
		if node < n {
			o.members[r] = append(o.members[r], node)
		}
		for _, to := range needs[node] {
			if needed := ring[to]; needed != r {
				o.users[needed] = append(o.users[needed], r)
				o.waiting[r]++
			}
		}
	}
	return o.groups()
}

func (o *orderer) groups() (told [][]int) {
	for r, n := range o.waiting {
		if n == 0 {
			heap.Push(o, r)
		}
	}
	for o.Len() > 0 {
		r := heap.Pop(o).(int)
		if len(o.members[r]) > 0 {
			told = append(told, o.members[r])
		}
		for _, user := range o.users[r] {
			o.waiting[user]--
			if o.waiting[user] == 0 {
				heap.Push(o, user)
			}
		}
	}
	return told
}

// Len is how many rings could come next.
func (o *orderer) Len() int { return len(o.ready) }

// Less has the ring with the least one first. Ahead of all stands one of which nothing is told: what waits for it alone could come next, too.
func (o *orderer) Less(i, j int) bool {
	return slices.Compare(o.members[o.ready[i]], o.members[o.ready[j]]) < 0
}

// Swap changes places in the heap.
func (o *orderer) Swap(i, j int) { o.ready[i], o.ready[j] = o.ready[j], o.ready[i] }

// Push puts a ring at the heap's end.
func (o *orderer) Push(r any) { o.ready = append(o.ready, r.(int)) }

// Pop takes the ring at the heap's end.
func (o *orderer) Pop() any {
	last := o.ready[len(o.ready)-1]
	o.ready = o.ready[:len(o.ready)-1]
	return last
}
