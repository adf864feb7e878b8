package cons

import (
	"paideia/api"
	"paideia/types"
)

// Add puts types' definitions in, all of them or none.
func (e *Env) Add(l ...api.Data) error {
	r := row{old: e, arities: map[string]int{}, cons: set{}}
	for _, d := range l {
		if !r.isNew(d) {
			return &api.At{Pos: d.Pos, Err: api.ErrTwice}
		}
	}
	for _, d := range l {
		if err := r.look(d); err != nil {
			return &api.At{Pos: d.Pos, Err: err}
		}
	}
	for _, d := range l {
		e.put(d)
	}
	return nil
}

// put takes a definition that nothing speaks against.
func (e *Env) put(d api.Data) {
	if e.places == nil {
		e.places, e.cons = map[string]int{}, map[string]place{}
	}
	at := len(e.datas)
	e.datas = append(e.datas, own(d))
	e.places[d.Name] = at
	for i, c := range d.Cons {
		e.cons[c.Name] = place{at, i}
	}
}

// row is what a row of definitions would add. It is held against what is there, which stays as it is: so there is nothing to take back where one is amiss.
type row struct {
	old     *Env
	arities map[string]int
	cons    set
}

// set is some names.
type set map[string]struct{}

func (s set) has(name string) bool {
	_, is := s[name]
	return is
}

func (s set) add(name string) { s[name] = struct{}{} }

// arity is Env's Arity with the row there.
func (r *row) arity(name string) (int, bool) {
	if n, is := r.old.Arity(name); is {
		return n, true
	}
	n, is := r.arities[name]
	return n, is
}

// isNew takes the names of the next one, and says whether all of them were nobody's.
func (r *row) isNew(d api.Data) bool {
	if _, is := r.arity(d.Name); is {
		return false
	}
	r.arities[d.Name] = len(d.Vars)
	for _, c := range d.Cons {
		if _, is := r.old.cons[c.Name]; is || r.cons.has(c.Name) {
			return false
		}
		r.cons.add(c.Name)
	}
	return true
}

// look tells what is amiss first in the arguments of a definition's constructors.
func (r *row) look(d api.Data) error {
	vars := set{}
	for _, name := range d.Vars {
		vars.add(name)
	}
	for _, c := range d.Cons {
		for _, t := range c.Args {
			if err := r.lookAt(t, vars); err != nil {
				return err
			}
		}
	}
	return nil
}

func (r *row) lookAt(t api.Type, vars set) error {
	if err := kind(t, r.arity); err != nil {
		return err
	}
	for _, name := range types.Vars(t) {
		if !vars.has(name) {
			return api.ErrScope
		}
	}
	return nil
}
