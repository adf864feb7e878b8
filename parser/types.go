package parser

import (
	"slices"

	"paideia/api"
)

// anyType reads a type that stands alone.
func (r *reader) anyType() api.Type {
	from := r.applied()
	if !r.skip("->") {
		return from
	}
	return api.Type{Kind: api.TFun, Args: []api.Type{from, r.anyType()}}
}

// applied reads a constructor and its arguments, or what can have none.
func (r *reader) applied() api.Type {
	head := r.word().Kind
	t := r.argument()
	if head == api.High {
		t.Args = r.arguments()
	}
	return t
}

// arguments reads types as far as one begins.
func (r *reader) arguments() []api.Type {
	var l []api.Type
	for r.word().Kind == api.Low || r.word().Kind == api.High || r.is("(") {
		l = append(l, r.argument())
	}
	return l
}

// argument reads a type that stands as an argument.
func (r *reader) argument() api.Type {
	switch w := r.word(); {
	case w.Kind == api.High:
		return api.Type{Kind: api.TCon, Name: r.take(api.High).Text}
	case w.Text == "(":
		return within(r, bracketedType)
	}
	return r.typeVariable()
}

func bracketedType(r *reader) api.Type { return inBrackets(r, (*reader).anyType) }

func (r *reader) typeVariable() api.Type {
	return api.Type{Kind: api.TVar, Name: r.take(api.Low).Text}
}

// scheme reads a type, perhaps behind a context.
func (r *reader) scheme() api.Scheme {
	var s api.Scheme
	s.Context = r.context((*reader).argument)
	s.Type = r.anyType()
	s.Vars = addVariables(s.Vars, s.Type)
	for _, p := range s.Context {
		s.Vars = addVariables(s.Vars, p.Type)
	}
	return s
}

// addVariables adds a type's variables to a list, each once.
func addVariables(l []string, t api.Type) []string {
	if t.Kind == api.TVar && !slices.Contains(l, t.Name) {
		l = append(l, t.Name)
	}
	for _, x := range t.Args {
		l = addVariables(l, x)
	}
	return l
}

// context reads a context with its arrow, if one stands here; of reads what a class is said of.
func (r *reader) context(of func(*reader) api.Type) []api.Pred {
	if !r.beginsContext() {
		return nil
	}
	pred := func(r *reader) api.Pred {
		class := r.take(api.High).Text
		return api.Pred{Class: class, Type: of(r)}
	}
	var l []api.Pred
	if r.skip("(") {
		l = separated(r, ",", pred)
		r.need(")")
	} else {
		l = append(l, pred(r))
	}
	r.need("=>")
	return l
}

// beginsContext looks for the arrow: a context's first words may be a type's as well.
func (r *reader) beginsContext() bool {
	first := 0
	switch {
	case r.word().Kind == api.High:
		first = 1
	case !r.is("("):
		return false
	}
	return r.ahead(r.behind(first)).Text == "=>"
}

// behind is the place ahead that is behind the n-th word, or behind the bracket that it begins.
func (r *reader) behind(n int) int {
	open := 0
	for r.ahead(n).Kind != 0 {
		switch r.ahead(n).Text {
		case "(":
			open++
		case ")":
			open--
		}
		n++
		if open <= 0 {
			break
		}
	}
	return n
}
