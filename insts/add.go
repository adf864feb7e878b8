package insts

import (
	"paideia/api"
	"paideia/classes"
	"paideia/cons"
)

// Add puts instances in, all of them or none. c has their types, k their classes.
func (e *Env) Add(c *cons.Env, k *classes.Env, l ...api.Instance) error {
	r := row{old: e, cons: c, classes: k, known: set[string]{}, pairs: set[pair]{}}
	for _, i := range l {
		if err := r.look(i); err != nil {
			return &api.At{Pos: i.Pos, Err: err}
		}
	}
	for _, i := range l {
		e.put(i)
	}
	return nil
}

// put takes an instance that nothing speaks against.
func (e *Env) put(i api.Instance) {
	if e.places == nil {
		e.places = map[pair]int{}
	}
	e.places[pair{i.Class, i.Con}] = len(e.insts)
	e.insts = append(e.insts, ownInstance(i))
}

// row is what a row of instances would add. It is held against what is there, which stays as it is: so there is nothing to take back where one is amiss.
type row struct {
	old     *Env
	cons    *cons.Env
	classes *classes.Env
	known   set[string] // classes of which it was told that they are there
	pairs   set[pair]
}

// look tells what is amiss first in the row's next one.
func (r *row) look(i api.Instance) error {
	if !r.isClass(i.Class) {
		return api.ErrClass
	}
	if err := r.lookAtType(i); err != nil {
		return err
	}
	if err := r.lookAtContext(i); err != nil {
		return err
	}
	return r.lookAtBinds(i)
}

// isClass asks for each class once: it is told as a whole copy, and many instances may name the same one.
func (r *row) isClass(name string) bool {
	if r.known.has(name) {
		return true
	}
	_, is := r.classes.Class(name)
	if is {
		r.known.add(name)
	}
	return is
}

func (r *row) lookAtType(i api.Instance) error {
	arity, is := r.cons.Arity(i.Con)
	switch {
	case !is || i.Con == "->": // functions have no instances, whatever types there are
		return api.ErrScope
	case len(i.Vars) != arity:
		return api.ErrKind
	case len(setOf(i.Vars)) < len(i.Vars) || !r.isNew(pair{i.Class, i.Con}):
		return api.ErrTwice
	}
	return nil
}

// isNew takes the next one's place, and says whether it was nobody's.
func (r *row) isNew(p pair) bool {
	if _, is := r.old.places[p]; is || r.pairs.has(p) {
		return false
	}
	r.pairs.add(p)
	return true
}

func (r *row) lookAtContext(i api.Instance) error {
	for _, p := range i.Context {
		if !r.isClass(p.Class) {
			return api.ErrClass
		}
	}
	vars := setOf(i.Vars)
	for _, p := range i.Context {
		if p.Type.Kind != api.TVar || !vars.has(p.Type.Name) {
			return api.ErrScope
		}
	}
	return nil
}

func (r *row) lookAtBinds(i api.Instance) error {
	names := set[string]{}
	for _, b := range i.Binds {
		if class, _, is := r.classes.Method(b.Name); !is || class != i.Class {
			return api.ErrClass
		}
		names.add(b.Name)
	}
	if len(names) < len(i.Binds) {
		return api.ErrTwice
	}
	return nil
}
