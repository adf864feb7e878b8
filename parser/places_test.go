package parser_test

import (
	"strconv"
	"strings"
	"testing"

	"paideia/api"
	"paideia/lexer"
	"paideia/parser"
	"paideia/printer"
)

// placing holds each place of a tree against the word that stands there.
type placing struct {
	t     *testing.T
	text  string
	words map[int]api.Token
}

func checkPlaces(t *testing.T, text string, tree any) {
	t.Helper()
	p := placing{t, text, map[int]api.Token{}}
	words, _ := lexer.Split([]byte(text))
	for _, w := range words {
		p.words[w.Pos] = w
	}
	switch x := tree.(type) {
	case api.Expr:
		p.expr(x)
	case api.Program:
		for _, d := range x.Datas {
			p.one(d.Pos, "data")
		}
		for _, c := range x.Classes {
			p.one(c.Pos, "class")
			p.binds(c.Defaults)
		}
		for _, i := range x.Instances {
			p.one(i.Pos, "instance")
			p.binds(i.Binds)
		}
		p.binds(x.Binds)
	}
}

func (p placing) one(pos int, of ...string) {
	p.t.Helper()
	for _, text := range of {
		if p.words[pos].Text == text {
			return
		}
	}
	p.t.Errorf("%q: at %d stands %q; want one of %q", p.text, pos, p.words[pos].Text, of)
}

func (p placing) binds(l []api.Bind) {
	for _, b := range l {
		p.one(b.Pos, b.Name)
		body := b.Body
		for body.Kind == api.ELam && body.Pos == b.Pos {
			body = body.L[0]
		}
		p.expr(body)
	}
}

func (p placing) expr(e api.Expr) {
	switch e.Kind {
	case api.EVar, api.ECon:
		p.one(e.Pos, e.Name)
	case api.EInt, api.EChar:
		if w := p.words[e.Pos]; w.N != e.N || w.Kind != api.Number && w.Kind != api.Letter {
			p.t.Errorf("%q: at %d stands %v; want %s", p.text, e.Pos, w, strconv.FormatInt(e.N, 10))
		}
	case api.EApp:
		if e.Pos != e.L[0].Pos {
			p.t.Errorf("%q: an application at %d of one at %d", p.text, e.Pos, e.L[0].Pos)
		}
	case api.ELam:
		p.one(e.Pos, "\\")
	case api.ELet:
		p.one(e.Pos, "let")
	case api.ECase:
		p.one(e.Pos, "case", "if")
	}
	for _, x := range e.L {
		p.expr(x)
	}
	p.binds(e.Binds)
	for _, a := range e.Alts {
		p.alt(a, p.words[e.Pos].Text == "if", e.Pos)
	}
}

func (p placing) alt(a api.Alt, choice bool, of int) {
	switch {
	case choice && a.Pos != of:
		p.t.Errorf("%q: an alternative at %d of an if at %d", p.text, a.Pos, of)
	case choice:
	case a.Con != "":
		p.one(a.Pos, a.Con)
	case len(a.Vars) > 0:
		p.one(a.Pos, a.Vars[0])
	default:
		p.one(a.Pos, "_")
	}
	p.expr(a.Body)
}

// What is printed has a bracket for each application, each lambda: so it may be too deep, or too long.
func TestPrintedTooDeep(t *testing.T) {
	for _, n := range []int{1, 2, most - 1, most, most + 1, 2 * most, 7000} {
		for _, text := range []string{"f" + strings.Repeat(" x", n), "\\" + strings.Repeat("x ", n) + "-> x", "f" + strings.Repeat("+f", n)} {
			e, err := parser.Expr([]byte(text))
			if err != nil {
				t.Fatalf("%.20q: %v", text, err)
			}
			again, err := parser.Expr([]byte(printer.Expr(e)))
			a, limit := err.(*api.At)
			switch count := strings.Count(printer.Expr(e), "("); {
			case n < most/2 && (err != nil || !printer.Same(e, again)):
				t.Errorf("%.20q, %d: %v", text, n, err)
			case n > most && (!limit || a.Err != api.ErrLimit):
				t.Errorf("%.20q, %d, %d brackets: %v", text, n, count, err)
			}
			checkPlaces(t, text, e)
		}
	}
	e, _ := parser.Expr([]byte("f" + strings.Repeat(" x", most)))
	if again, err := parser.Expr([]byte(printer.Expr(e))); err != nil || !printer.Same(e, again) {
		t.Error(err)
	}
	e, _ = parser.Expr([]byte("f" + strings.Repeat(" x", most+1)))
	exprs.checkError(t, printer.Expr(e), most, api.ErrLimit)
}
