package unify

import (
	"slices"

	"paideia/api"
	"paideia/subst"
)

// graph is types with each variable once. What is found is noted in it, and put in its places at the very end only: types that share would grow beyond all bounds.
type graph struct {
	parts []part
	vars  map[string]int // the variables' places
	edges int            // how many arguments all parts have
	steps int            // since order was asked last
}

// part is a part of a type; its arguments are told by their places.
type part struct {
	kind int
	name string
	args []int
	next int // what it has become one with, or its own place: then it is a root
}

// put lays a type's parts into the graph and tells its place. A variable is its name alone.
func (g *graph) put(t api.Type) int {
	if t.Kind == api.TVar {
		return g.putVar(t.Name)
	}
	args := make([]int, len(t.Args))
	for i, x := range t.Args {
		args[i] = g.put(x)
	}
	g.edges += len(args)
	return g.add(part{kind: t.Kind, name: t.Name, args: args})
}

func (g *graph) putVar(name string) int {
	place, found := g.vars[name]
	if !found {
		place = g.add(part{kind: api.TVar, name: name})
		g.vars[name] = place
	}
	return place
}

func (g *graph) add(p part) int {
	p.next = len(g.parts)
	g.parts = append(g.parts, p)
	return p.next
}

// root is what a part is by what was found so far.
func (g *graph) root(place int) int {
	for g.parts[place].next != place {
		// A shorter way for the next time: rows of variables may be long.
		g.parts[place].next = g.parts[g.parts[place].next].next
		place = g.parts[place].next
	}
	return place
}

func (g *graph) isVar(place int) bool { return g.parts[place].kind == api.TVar }

// alike says whether two parts that are no variables are one when their arguments are.
func (g *graph) alike(a, b int) bool {
	x, y := g.parts[a], g.parts[b]
	if x.kind != y.kind || len(x.args) != len(y.args) {
		return false
	}
	return x.kind == api.TFun || x.kind == api.TCon && x.name == y.name
}

// step is two parts to be made one; when joined, their arguments are one already.
type step struct {
	a, b   int
	joined bool
}

// join makes two parts one, from the left; false: it can't go on.
//
// It doesn't ask whether a variable stands in what it gets: that would go through all that was found each time. What stands within itself once does so for good: to ask in the end, or when it can't go on, tells as well which error came first.
func (g *graph) join(a, b int) bool {
	work := []step{{a: a, b: b}} // and not calls within calls: by what was found types may be deeper than those that were given
	for len(work) > 0 {
		last := len(work) - 1
		s := work[last]
		work = work[:last]
		a, b := g.root(s.a), g.root(s.b)
		switch {
		case a == b:
		case s.joined, g.isVar(a):
			g.parts[a].next = b
		case g.isVar(b):
			g.parts[b].next = a
		case g.alike(a, b):
			work = g.pushArgs(work, a, b)
		default:
			return false
		}
		if g.goesRound() {
			return false
		}
	}
	return true
}

// pushArgs adds what makes two parts one: their arguments, the first of them on top. Only behind these do the parts count as one: ahead of it, what differs in them would go unseen.
func (g *graph) pushArgs(work []step, a, b int) []step {
	work = append(work, step{a, b, true})
	x, y := g.parts[a].args, g.parts[b].args
	for i := len(x) - 1; i >= 0; i-- {
		work = append(work, step{a: x[i], b: y[i]})
	}
	return work
}

// goesRound says whether a part stands within itself, which join might never come to an end of. It looks only once in as many steps as the look costs.
func (g *graph) goesRound() bool {
	g.steps++
	if g.steps <= len(g.parts)+g.edges {
		return false
	}
	g.steps = 0
	_, ends := g.order()
	return !ends
}

// order tells the roots, each ahead of its arguments; false: there is no such order, a part stands within itself.
func (g *graph) order() ([]int, bool) {
	waits := make([]int, len(g.parts)) // for how many places to be told ahead of it
	roots := make([]int, 0, len(g.parts))
	for i := range g.parts {
		if g.root(i) == i {
			roots = append(roots, i)
		}
	}
	for _, i := range roots {
		for _, x := range g.parts[i].args {
			waits[g.root(x)]++
		}
	}
	l := make([]int, 0, len(roots))
	for _, i := range roots {
		if waits[i] == 0 {
			l = append(l, i)
		}
	}
	for n := 0; n < len(l); n++ {
		for _, x := range g.parts[l[n]].args {
			i := g.root(x)
			waits[i]--
			if waits[i] == 0 {
				l = append(l, i)
			}
		}
	}
	return l, len(l) == len(roots)
}

// found tells the types of the variables that have become something else; in order are all roots.
func (g *graph) found(order []int) subst.Subst {
	made := make([]api.Type, len(g.parts))
	for _, i := range slices.Backward(order) {
		p := g.parts[i]
		args := make([]api.Type, len(p.args))
		for j, x := range p.args {
			args[j] = made[g.root(x)]
		}
		made[i] = api.Type{Kind: p.kind, Name: p.name, Args: args}
	}
	var l []subst.Pair
	for i, p := range g.parts {
		if g.isVar(i) { // one that is itself Of leaves out
			l = append(l, subst.Pair{Name: p.name, Type: made[g.root(i)]})
		}
	}
	return subst.Of(l...)
}
