package printer

import (
	"strings"

	"paideia/api"
)

// putProgram writes a program's declarations, a line each.
func putProgram(b *strings.Builder, p api.Program) {
	putLines(b, p.Datas, putData)
	putLines(b, p.Classes, putClass)
	putLines(b, p.Instances, putInstance)
	putLines(b, p.Binds, putBind)
}

// putLines writes declarations of one form, each with its end.
func putLines[T any](b *strings.Builder, l []T, put func(*strings.Builder, T)) {
	putEach(b, "", ";\n", l, put)
	if len(l) > 0 {
		b.WriteString(";\n")
	}
}

// putData writes a type's definition.
func putData(b *strings.Builder, d api.Data) {
	b.WriteString("data ")
	b.WriteString(d.Name)
	putEach(b, " ", " ", d.Vars, putText)
	b.WriteString(" =")
	putEach(b, " ", " | ", d.Cons, putCon)
	putEach(b, " deriving (", ", ", d.Deriving, putText)
	if len(d.Deriving) > 0 {
		b.WriteString(")")
	}
}

// putCon writes a constructor and its arguments.
func putCon(b *strings.Builder, c api.Con) {
	b.WriteString(c.Name)
	putEach(b, " ", " ", c.Args, putArgument)
}

// putClass writes a class: the classes above it as a context, then its methods, then its definitions.
func putClass(b *strings.Builder, c api.Class) {
	b.WriteString("class ")
	putContext(b, supers(c))
	b.WriteString(c.Name)
	b.WriteString(" ")
	b.WriteString(c.Var)
	b.WriteString(" where {")
	putEach(b, " ", "; ", c.Methods, putMethod)
	first := " "
	if len(c.Methods) > 0 {
		first = "; "
	}
	putEach(b, first, "; ", c.Defaults, putBind)
	b.WriteString(" }")
}

// supers are the classes above a class, each of its variable.
func supers(c api.Class) []api.Pred {
	var l []api.Pred
	for _, name := range c.Supers {
		l = append(l, api.Pred{Class: name, Type: variable(c.Var)})
	}
	return l
}

// putMethod writes a method's signature.
func putMethod(b *strings.Builder, m api.Method) {
	putSignature(b, m.Name, api.Scheme{Type: m.Type})
}

// putInstance writes an instance.
func putInstance(b *strings.Builder, i api.Instance) {
	b.WriteString("instance ")
	putContext(b, i.Context)
	putPred(b, api.Pred{Class: i.Class, Type: instanceType(i)})
	b.WriteString(" where {")
	putEach(b, " ", "; ", i.Binds, putBind)
	b.WriteString(" }")
}

// instanceType is the type that an instance is for.
func instanceType(i api.Instance) api.Type {
	t := api.Type{Kind: api.TCon, Name: i.Con}
	for _, name := range i.Vars {
		t.Args = append(t.Args, variable(name))
	}
	return t
}

// variable is a type's variable.
func variable(name string) api.Type { return api.Type{Kind: api.TVar, Name: name} }
