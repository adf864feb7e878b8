package printer

import (
	"strings"

	"paideia/api"
)

// putType writes a type that stands alone.
func putType(b *strings.Builder, t api.Type) {
	switch t.Kind {
	case api.TVar, api.TCon:
		b.WriteString(t.Name)
		putEach(b, " ", " ", t.Args, putArgument)
	case api.TFun:
		from, to := part(t.Args, 0), part(t.Args, 1)
		putBracketed(b, from, from.Kind == api.TFun || from.Kind == api.TAll)
		b.WriteString(" -> ")
		putType(b, to)
	case api.TAll:
		b.WriteString("forall ")
		b.WriteString(t.Name)
		b.WriteString(". ")
		putType(b, part(t.Args, 0))
	}
}

// putArgument writes a type that stands as an argument.
func putArgument(b *strings.Builder, t api.Type) {
	applied := t.Kind == api.TCon && len(t.Args) > 0
	putBracketed(b, t, applied || t.Kind == api.TFun || t.Kind == api.TAll)
}

// putBracketed writes a type, perhaps in brackets.
func putBracketed(b *strings.Builder, t api.Type, brackets bool) {
	if !brackets {
		putType(b, t)
		return
	}
	b.WriteString("(")
	putType(b, t)
	b.WriteString(")")
}

// putScheme writes a context and a type.
func putScheme(b *strings.Builder, s api.Scheme) {
	putContext(b, s.Context)
	putType(b, s.Type)
}

// putContext writes a context with its arrow, nothing of none.
func putContext(b *strings.Builder, l []api.Pred) {
	switch len(l) {
	case 0:
		return
	case 1:
		putPred(b, l[0])
	default:
		putEach(b, "(", ", ", l, putPred)
		b.WriteString(")")
	}
	b.WriteString(" => ")
}

// putPred writes a class and a type as its argument.
func putPred(b *strings.Builder, p api.Pred) {
	b.WriteString(p.Class)
	b.WriteString(" ")
	putArgument(b, p.Type)
}
