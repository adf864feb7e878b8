package classes

import (
	"slices"

	"paideia/api"
	"paideia/cons"
	"paideia/group"
	"paideia/types"
)

// Add puts classes in, all of them or none. c has the types of which their methods' are made.
func (e *Env) Add(c *cons.Env, l ...api.Class) error {
	r := row{old: e, cons: c, places: map[string]int{}, methods: set{}}
	for i, k := range l {
		if !r.isNew(i, k) {
			return &api.At{Pos: k.Pos, Err: api.ErrTwice}
		}
	}
	above := r.aboveThemselves(l)
	for i, k := range l {
		if err := r.look(k, above[i]); err != nil {
			return &api.At{Pos: k.Pos, Err: err}
		}
	}
	for _, k := range l {
		e.put(k)
	}
	return nil
}

// put takes a class that nothing speaks against.
func (e *Env) put(k api.Class) {
	if e.places == nil {
		e.places, e.methods = map[string]int{}, map[string]place{}
	}
	at := len(e.classes)
	e.classes = append(e.classes, ownClass(k))
	e.places[k.Name] = at
	for i, m := range k.Methods {
		e.methods[m.Name] = place{at, i}
	}
}

// row is what a row of classes would add. It is held against what is there, which stays as it is: so there is nothing to take back where one is amiss.
type row struct {
	old     *Env
	cons    *cons.Env
	places  map[string]int // of classes, in the row
	methods set
}

// isThere says whether there is a class of that name, with the row there.
func (r *row) isThere(class string) bool {
	if _, is := r.old.places[class]; is {
		return true
	}
	_, is := r.places[class]
	return is
}

// isNew takes the names of the i-th one, and says whether all of them were nobody's, and its Supers apart.
func (r *row) isNew(i int, k api.Class) bool {
	if r.isThere(k.Name) {
		return false
	}
	r.places[k.Name] = i
	for _, m := range k.Methods {
		if _, is := r.old.methods[m.Name]; is || r.methods.has(m.Name) {
			return false
		}
		r.methods.add(m.Name)
	}
	return areApart(k.Supers)
}

// aboveThemselves tells of each of the row whether it is above itself. Only others of the row can make it so: what was there before stands on nothing that comes behind.
func (r *row) aboveThemselves(l []api.Class) []bool {
	supers := make([][]int, len(l))
	for i, k := range l {
		for _, name := range k.Supers {
			if at, is := r.places[name]; is {
				supers[i] = append(supers[i], at)
			}
		}
	}
	above := make([]bool, len(l))
	for _, ring := range group.Order(len(l), supers) {
		first := ring[0]
		if len(ring) == 1 && !slices.Contains(supers[first], first) {
			continue
		}
		for _, i := range ring {
			above[i] = true
		}
	}
	return above
}

// look tells what is amiss first in a class.
func (r *row) look(k api.Class, aboveItself bool) error {
	if aboveItself || !r.areThere(k.Supers) {
		return api.ErrClass
	}
	for _, m := range k.Methods {
		if err := r.cons.Kind(m.Type); err != nil {
			return err
		}
		if !types.Has(m.Type, k.Var) {
			return api.ErrClass
		}
	}
	if !areMethods(k) {
		return api.ErrClass
	}
	return nil
}

func (r *row) areThere(classes []string) bool {
	for _, name := range classes {
		if !r.isThere(name) {
			return false
		}
	}
	return true
}

// areMethods says whether each of the Defaults is a Method's, and each Method's alone.
func areMethods(k api.Class) bool {
	left := set{}
	for _, m := range k.Methods {
		left.add(m.Name)
	}
	for _, b := range k.Defaults {
		if !left.has(b.Name) {
			return false
		}
		delete(left, b.Name)
	}
	return true
}
