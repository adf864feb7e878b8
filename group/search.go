package group

import (
	"math"
	"slices"
)

// search goes through a graph to find its rings: nodes each of which needs the other ones, by however many. It keeps the way it has come by itself: calls could not be nested as deep as a row may be long.
type search struct {
	rest  [][]int // by node: those that it needs and that are not looked at yet
	met   []int   // by node: its number, from 1 on, as they are met; 0 before that; beyond all numbers once its ring is known
	low   []int   // by node: the least number that is known to be in its ring
	ring  []int   // by node
	path  []int   // the way from where it began to where it stands
	open  []int   // those that were met and whose ring is not known yet
	count int     // of those that were met
	rings int
}

// rings tells which ring each node of a graph is in, and how many rings there are.
func rings(needs [][]int) ([]int, int) {
	n := len(needs)
	s := search{rest: slices.Clone(needs), met: make([]int, n), low: make([]int, n), ring: make([]int, n)}
	for node := range n {
		if s.met[node] == 0 {
			s.from(node)
		}
	}
	return s.ring, s.rings
}

// from finds the rings of all that a node leads to.
func (s *search) from(start int) {
	s.meet(start)
walk:
	for len(s.path) > 0 {
		at := s.path[len(s.path)-1]
		for len(s.rest[at]) > 0 {
			to := s.rest[at][0]
			s.rest[at] = s.rest[at][1:]
			if s.met[to] == 0 {
				s.meet(to)
				continue walk
			}
			s.low[at] = min(s.low[at], s.met[to])
		}
		s.leave(at)
	}
}

func (s *search) meet(node int) {
	s.count++
	s.met[node], s.low[node] = s.count, s.count
	s.path = append(s.path, node)
	s.open = append(s.open, node)
}

// leave goes back from a node, all of whose needs are looked at.
func (s *search) leave(node int) {
	s.path = s.path[:len(s.path)-1]
	if s.low[node] == s.met[node] {
		s.end(node)
		return
	}
	up := s.path[len(s.path)-1]
	s.low[up] = min(s.low[up], s.low[node])
}

// end makes a ring of the node that was met first in it, and all that are open since.
func (s *search) end(first int) {
	for {
		node := s.open[len(s.open)-1]
		s.open = s.open[:len(s.open)-1]
		s.ring[node], s.met[node] = s.rings, math.MaxInt
		if node == first {
			break
		}
	}
	s.rings++
}
