package scope

import "paideia/api"

// checker goes through a program in the chapter's order, to its end: what is amiss first is its fault.
type checker struct {
	vars, cons set // those that are known so far
	fault      error
}

// fail keeps the first fault alone.
func (c *checker) fail(pos int, err error) {
	if c.fault == nil {
		c.fault = &api.At{Pos: pos, Err: err}
	}
}

func (c *checker) datas(l []api.Data) {
	types := set{}
	for _, d := range l {
		isNew := types.add(d.Name) && apart(d.Vars)
		for _, con := range d.Cons {
			isNew = c.cons.add(con.Name) && isNew
		}
		if !isNew {
			c.fail(d.Pos, api.ErrTwice)
		}
	}
}

func (c *checker) classes(l []api.Class) {
	classes := set{}
	for _, k := range l {
		isNew := classes.add(k.Name)
		for _, m := range k.Methods {
			isNew = c.vars.add(m.Name) && isNew
		}
		if !isNew {
			c.fail(k.Pos, api.ErrTwice)
		}
	}
}

// binds looks at the program's own names; the methods are known by now.
func (c *checker) binds(l []api.Bind) {
	for _, b := range l {
		if !c.vars.add(b.Name) {
			c.fail(b.Pos, api.ErrTwice)
		}
	}
}

// bodies looks at all expressions; whatever the program defines is known by now.
func (c *checker) bodies(p api.Program) {
	w := walker{bound: map[string]int{}, meet: c.expr, alt: c.alt}
	for _, k := range p.Classes {
		c.list(k.Defaults)
		w.bodies(k.Defaults)
	}
	for _, i := range p.Instances {
		c.list(i.Binds)
		w.bodies(i.Binds)
	}
	w.bodies(p.Binds)
}

// list looks at the names of a list of definitions. They are held against each other alone: such a list may define again what stands around.
func (c *checker) list(l []api.Bind) {
	names := set{}
	for _, b := range l {
		if !names.add(b.Name) {
			c.fail(b.Pos, api.ErrTwice)
		}
	}
}

// expr looks at what a walker meets.
func (c *checker) expr(e api.Expr) {
	switch e.Kind {
	case api.EVar:
		c.known(c.vars, e.Name, e.Pos)
	case api.ECon:
		c.known(c.cons, e.Name, e.Pos)
	case api.ELet:
		c.list(e.Binds)
	}
}

func (c *checker) alt(a api.Alt) {
	if a.Con != "" {
		c.known(c.cons, a.Con, a.Pos)
	}
	if !apart(altNames(a)) {
		c.fail(a.Pos, api.ErrTwice)
	}
}

// known asks that a name be somebody's.
func (c *checker) known(names set, name string, pos int) {
	if _, found := names[name]; !found {
		c.fail(pos, api.ErrScope)
	}
}
