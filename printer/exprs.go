package printer

import (
	"strconv"
	"strings"

	"paideia/api"
	"paideia/lexer"
)

// putExpr writes an expression. All that has parts is in brackets of its own, so none hangs on where it stands.
func putExpr(b *strings.Builder, e api.Expr) {
	switch e.Kind {
	case api.EVar:
		putName(b, e.Name)
	case api.ECon:
		b.WriteString(e.Name)
	case api.EInt:
		b.WriteString(strconv.FormatInt(e.N, 10))
	case api.EChar:
		b.WriteString(letter(e.N))
	case api.EApp, api.ELam, api.ELet, api.ECase:
		b.WriteString("(")
		putParts(b, e)
		b.WriteString(")")
	}
}

// putParts writes what stands in an expression's brackets.
func putParts(b *strings.Builder, e api.Expr) {
	switch e.Kind {
	case api.EApp:
		putExpr(b, part(e.L, 0))
		b.WriteString(" ")
		putExpr(b, part(e.L, 1))
	case api.ELam:
		b.WriteString("\\")
		putName(b, e.Name)
		b.WriteString(" -> ")
		putExpr(b, part(e.L, 0))
	case api.ELet:
		b.WriteString("let {")
		putEach(b, " ", "; ", e.Binds, putBind)
		b.WriteString(" } in ")
		putExpr(b, part(e.L, 0))
	case api.ECase:
		b.WriteString("case ")
		putExpr(b, part(e.L, 0))
		b.WriteString(" of {")
		putEach(b, " ", "; ", e.Alts, putAlt)
		b.WriteString(" }")
	}
}

// putAlt writes an alternative: that of a constructor, or one that takes anything, with a variable or without one.
func putAlt(b *strings.Builder, a api.Alt) {
	switch {
	case a.Con != "":
		b.WriteString(a.Con)
		putEach(b, " ", " ", a.Vars, putName)
	case len(a.Vars) > 0:
		putName(b, a.Vars[0])
	default:
		b.WriteString("_")
	}
	b.WriteString(" -> ")
	putExpr(b, a.Body)
}

// putBind writes a definition, behind its signature, if it has one.
func putBind(b *strings.Builder, d api.Bind) {
	if d.Signed {
		putSignature(b, d.Name, d.Sig)
		b.WriteString("; ")
	}
	putName(b, d.Name)
	b.WriteString(" = ")
	putExpr(b, d.Body)
}

// putSignature writes a name and its scheme.
func putSignature(b *strings.Builder, name string, s api.Scheme) {
	putName(b, name)
	b.WriteString(" :: ")
	putScheme(b, s)
}

// putName writes a name of an expression's: an operator may stand wherever a small name may, in brackets.
func putName(b *strings.Builder, name string) {
	if lexer.Operator(name) {
		name = "(" + name + ")"
	}
	b.WriteString(name)
}

// letter is a letter as it is written; a question mark for a code that no text writes.
func letter(code int64) string {
	switch {
	case code == '\n':
		return `'\n'`
	case code == '\'':
		return `'\''`
	case code == '\\':
		return `'\\'`
	case code < 0x20 || code > 0x7e:
		return "'?'"
	}
	return "'" + string(rune(code)) + "'"
}
