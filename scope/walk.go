package scope

import "paideia/api"

// walker goes through expressions from the left, and tells what it meets.
type walker struct {
	bound map[string]int   // by how many around a name is bound
	meet  func(e api.Expr) // a variable that is bound nowhere around; a constructor; a let, ahead of all that is in it
	alt   func(a api.Alt)  // an alternative, ahead of its body
}

// expr goes through the parts that an expression of its kind has.
func (w *walker) expr(e api.Expr) {
	switch e.Kind {
	case api.EVar:
		if w.bound[e.Name] == 0 {
			w.meet(e)
		}
	case api.ECon:
		w.meet(e)
	case api.EApp:
		w.exprs(e.L)
	case api.ELam:
		w.within([]string{e.Name}, func() { w.exprs(e.L) })
	case api.ELet:
		w.meet(e)
		w.within(bindNames(e.Binds), func() {
			w.bodies(e.Binds)
			w.exprs(e.L)
		})
	case api.ECase:
		w.exprs(e.L)
		w.alts(e.Alts)
	}
}

func (w *walker) exprs(l []api.Expr) {
	for _, e := range l {
		w.expr(e)
	}
}

func (w *walker) bodies(l []api.Bind) {
	for _, b := range l {
		w.expr(b.Body)
	}
}

func (w *walker) alts(l []api.Alt) {
	for _, a := range l {
		w.alt(a)
		w.within(altNames(a), func() { w.expr(a.Body) })
	}
}

// within does what is to be done where these names are bound. They are counted: one that is bound within its own scope stays bound behind the inner one.
func (w *walker) within(names []string, do func()) {
	for _, name := range names {
		w.bound[name]++
	}
	do()
	for _, name := range names {
		w.bound[name]--
	}
}

func bindNames(l []api.Bind) []string {
	names := make([]string, len(l))
	for i, b := range l {
		names[i] = b.Name
	}
	return names
}

// altNames are the names that an alternative binds: `_` is none.
func altNames(a api.Alt) []string {
	names := make([]string, 0, len(a.Vars))
	for _, name := range a.Vars {
		if name != "_" {
			names = append(names, name)
		}
	}
	return names
}
