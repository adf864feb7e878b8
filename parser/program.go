package parser

import "paideia/api"

// entries are the signatures and the definitions of one list, as they come.
type entries struct {
	signatures []signature
	binds      []api.Bind
}

type signature struct {
	name   api.Token
	scheme api.Scheme
}

// entry reads a signature or a definition.
func (r *reader) entry(l *entries) {
	name := r.name()
	if r.skip("::") {
		l.signatures = append(l.signatures, signature{name, r.scheme()})
	} else {
		l.binds = append(l.binds, r.definition(name))
	}
}

// definition reads what stands behind the name of a definition.
func (r *reader) definition(name api.Token) api.Bind {
	vars := r.variables()
	r.need("=")
	return api.Bind{Name: name.Text, Body: lambdas(name.Pos, vars, r.expr()), Pos: name.Pos}
}

// signed are a list's definitions, each signature with the first one of its name. It is asked when the list has ended: a signature may stand anywhere in it.
func (r *reader) signed(l entries) []api.Bind {
	first := map[string]int{}
	for i, b := range l.binds {
		if _, ok := first[b.Name]; !ok {
			first[b.Name] = i
		}
	}
	for _, s := range l.signatures {
		i, ok := first[s.name.Text]
		if !ok || l.binds[i].Signed {
			r.fail(s.name.Pos, api.ErrParse)
			return nil
		}
		l.binds[i].Signed, l.binds[i].Sig = true, s.scheme
	}
	return l.binds
}

// program reads declarations up to the text's end.
func (r *reader) program() api.Program {
	var p api.Program
	var l entries
	r.items("", func() {
		switch r.word().Text {
		case "data":
			p.Datas = append(p.Datas, r.data())
		case "class":
			p.Classes = append(p.Classes, r.class())
		case "instance":
			p.Instances = append(p.Instances, r.instance())
		default:
			r.entry(&l)
		}
	})
	p.Binds = r.signed(l)
	return p
}

func (r *reader) data() api.Data {
	d := api.Data{Pos: r.word().Pos}
	r.need("data")
	d.Name = r.take(api.High).Text
	d.Vars = r.typeVariables()
	r.need("=")
	d.Cons = separated(r, "|", (*reader).constructor)
	if r.skip("deriving") {
		d.Deriving = r.derived()
	}
	return d
}

// typeVariables reads small names as far as there are some; of types no operator is one.
func (r *reader) typeVariables() []string {
	var l []string
	for r.word().Kind == api.Low {
		l = append(l, r.take(api.Low).Text)
	}
	return l
}

func (r *reader) constructor() api.Con {
	name := r.take(api.High).Text
	return api.Con{Name: name, Args: r.arguments()}
}

// derived reads a class, or some in brackets, or none in brackets.
func (r *reader) derived() []string {
	class := func(r *reader) string { return r.take(api.High).Text }
	if !r.skip("(") {
		return []string{class(r)}
	}
	if r.skip(")") {
		return nil
	}
	l := separated(r, ",", class)
	r.need(")")
	return l
}

func (r *reader) class() api.Class {
	c := api.Class{Pos: r.word().Pos}
	r.need("class")
	above := r.context((*reader).typeVariable)
	c.Name = r.take(api.High).Text
	at := r.word().Pos
	c.Var = r.take(api.Low).Text
	for _, p := range above {
		if p.Type.Name != c.Var {
			r.fail(at, api.ErrParse)
		}
		c.Supers = append(c.Supers, p.Class)
	}
	r.need("where")
	r.block(func() { r.member(&c) })
	return c
}

// member reads a method's signature, or a definition.
func (r *reader) member(c *api.Class) {
	name := r.name()
	if !r.skip("::") {
		c.Defaults = append(c.Defaults, r.definition(name))
		return
	}
	s := r.scheme()
	if len(s.Context) > 0 {
		r.fail(name.Pos, api.ErrParse)
	}
	c.Methods = append(c.Methods, api.Method{Name: name.Text, Type: s.Type})
}

func (r *reader) instance() api.Instance {
	i := api.Instance{Pos: r.word().Pos}
	r.need("instance")
	i.Context = r.context((*reader).typeVariable)
	i.Class = r.take(api.High).Text
	brackets := r.skip("(")
	i.Con = r.take(api.High).Text
	if brackets {
		i.Vars = r.typeVariables()
		r.need(")")
	}
	r.need("where")
	r.block(func() { i.Binds = append(i.Binds, r.definition(r.name())) })
	return i
}
