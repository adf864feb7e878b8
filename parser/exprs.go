package parser

import (
	"slices"

	"paideia/api"
)

// expr reads an expression.
func (r *reader) expr() api.Expr {
	switch r.word().Text {
	case "\\":
		return within(r, (*reader).lambda)
	case "let":
		return within(r, (*reader).let)
	case "case":
		return within(r, (*reader).cases)
	case "if":
		return within(r, (*reader).choice)
	}
	return r.comparison()
}

func (r *reader) lambda() api.Expr {
	pos := r.word().Pos
	r.need("\\")
	vars := r.variables()
	if len(vars) == 0 {
		r.wrong()
	}
	r.need("->")
	return lambdas(pos, vars, r.expr())
}

// lambdas are the lambdas of the variables around a body, all of one place.
func lambdas(pos int, vars []string, body api.Expr) api.Expr {
	for _, name := range slices.Backward(vars) {
		body = api.Expr{Kind: api.ELam, Pos: pos, Name: name, L: []api.Expr{body}}
	}
	return body
}

func (r *reader) let() api.Expr {
	e := api.Expr{Kind: api.ELet, Pos: r.word().Pos}
	r.need("let")
	var l entries
	r.block(func() { r.entry(&l) })
	e.Binds = r.signed(l)
	r.need("in")
	e.L = []api.Expr{r.expr()}
	return e
}

func (r *reader) cases() api.Expr {
	e := api.Expr{Kind: api.ECase, Pos: r.word().Pos}
	r.need("case")
	e.L = []api.Expr{r.expr()}
	r.need("of")
	r.block(func() { e.Alts = append(e.Alts, r.alternative()) })
	return e
}

func (r *reader) alternative() api.Alt {
	a := api.Alt{Pos: r.word().Pos}
	switch {
	case r.word().Kind == api.High:
		a.Con = r.take(api.High).Text
		a.Vars = r.fields()
	case r.skip("_"):
	case r.beginsVariable():
		w := r.name()
		a.Pos, a.Vars = w.Pos, []string{w.Text}
	default:
		r.wrong()
	}
	r.need("->")
	a.Body = r.expr()
	return a
}

// choice reads an `if`: a case of True and False.
func (r *reader) choice() api.Expr {
	pos := r.word().Pos
	r.need("if")
	asked := r.expr()
	r.need("then")
	yes := r.expr()
	r.need("else")
	no := r.expr()
	return api.Expr{Kind: api.ECase, Pos: pos, L: []api.Expr{asked}, Alts: []api.Alt{
		{Con: "True", Body: yes, Pos: pos},
		{Con: "False", Body: no, Pos: pos},
	}}
}

// comparison reads sums, with one of the operators that bind least between, or none.
func (r *reader) comparison() api.Expr {
	e := r.sum()
	if r.word().Kind == api.Sign {
		op := r.take(api.Sign)
		e = operation(op, e, r.sum())
	}
	return e
}

func (r *reader) sum() api.Expr {
	e := r.product()
	for r.is("+") || r.is("-") {
		op := r.take(api.Sign)
		e = operation(op, e, r.product())
	}
	return e
}

func (r *reader) product() api.Expr {
	e := r.application()
	for r.is("*") {
		op := r.take(api.Sign)
		e = operation(op, e, r.application())
	}
	return e
}

func operation(op api.Token, a, b api.Expr) api.Expr {
	return apply(apply(variable(op), a), b)
}

func apply(f, x api.Expr) api.Expr {
	return api.Expr{Kind: api.EApp, Pos: f.Pos, L: []api.Expr{f, x}}
}

func variable(w api.Token) api.Expr {
	return api.Expr{Kind: api.EVar, Pos: w.Pos, Name: w.Text}
}

func (r *reader) application() api.Expr {
	e := r.atom()
	for r.beginsAtom() {
		e = apply(e, r.atom())
	}
	return e
}

func (r *reader) beginsAtom() bool {
	switch r.word().Kind {
	case api.Low, api.High, api.Number, api.Letter:
		return true
	}
	return r.is("(")
}

// atom reads what may be applied, or be an argument.
func (r *reader) atom() api.Expr {
	w := r.word()
	switch {
	case r.beginsVariable():
		return variable(r.name())
	case w.Text == "(":
		return within(r, bracketedExpr)
	case w.Kind == api.High:
		r.next++
		return api.Expr{Kind: api.ECon, Pos: w.Pos, Name: w.Text}
	case w.Kind == api.Number:
		r.next++
		return api.Expr{Kind: api.EInt, Pos: w.Pos, N: w.N}
	case w.Kind == api.Letter:
		r.next++
		return api.Expr{Kind: api.EChar, Pos: w.Pos, N: w.N}
	}
	r.wrong()
	return api.Expr{}
}

func bracketedExpr(r *reader) api.Expr { return inBrackets(r, (*reader).expr) }

// beginsVariable looks behind a bracket: that of an operator alone is a name's.
func (r *reader) beginsVariable() bool {
	return r.word().Kind == api.Low || r.is("(") && r.ahead(1).Kind == api.Sign
}

// name reads a small name, or an operator in brackets: its word.
func (r *reader) name() api.Token {
	if !r.is("(") {
		return r.take(api.Low)
	}
	return inBrackets(r, func(r *reader) api.Token { return r.take(api.Sign) })
}

// variables reads names as far as one begins.
func (r *reader) variables() []string {
	var l []string
	for r.beginsVariable() {
		l = append(l, r.name().Text)
	}
	return l
}

// fields reads the variables of a constructor's alternative; `_` may stand among them.
func (r *reader) fields() []string {
	l := r.variables()
	for r.skip("_") {
		l = append(l, "_")
		l = append(l, r.variables()...)
	}
	return l
}
