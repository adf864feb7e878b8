// Package own: trees in memory of their own, for the layers that keep what they are given, or hand out what they keep.
package own

import (
	"slices"

	"paideia/api"
	"paideia/types"
)

// Type is a type of which no list is another one's.
func Type(t api.Type) api.Type {
	t.Args = types.Con(t.Name, t.Args...).Args // Con's arguments are new, whole
	return t
}

// Preds are a context of which no list is another one's.
func Preds(l []api.Pred) []api.Pred { return each(l, pred) }

// Binds are definitions of which no list is another one's.
func Binds(l []api.Bind) []api.Bind { return each(l, bind) }

func bind(b api.Bind) api.Bind {
	b.Sig, b.Body = scheme(b.Sig), expr(b.Body)
	return b
}

func scheme(s api.Scheme) api.Scheme {
	return api.Scheme{Vars: slices.Clone(s.Vars), Context: Preds(s.Context), Type: Type(s.Type)}
}

func pred(p api.Pred) api.Pred {
	p.Type = Type(p.Type)
	return p
}

func expr(e api.Expr) api.Expr {
	e.L, e.Alts, e.Binds = each(e.L, expr), each(e.Alts, alt), Binds(e.Binds)
	return e
}

func alt(a api.Alt) api.Alt {
	a.Vars, a.Body = slices.Clone(a.Vars), expr(a.Body)
	return a
}

// each is a list of what one makes of each.
func each[T any](l []T, one func(T) T) []T {
	if len(l) == 0 {
		return nil // an empty list may have room, which is the caller's
	}
	made := make([]T, len(l))
	for i, x := range l {
		made[i] = one(x)
	}
	return made
}
