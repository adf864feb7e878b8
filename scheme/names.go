package scheme

import (
	"strconv"

	"paideia/api"
	"paideia/subst"
	"paideia/types"
)

// variables tells those of a type, then of a context, each once, as they come.
func variables(context []api.Pred, t api.Type) []string {
	l := make([]api.Type, 0, 1+len(context))
	l = append(l, t)
	for _, p := range context {
		l = append(l, p.Type)
	}
	return types.Vars(l...)
}

// split tells the names that are in a list, and those that are not, both in their order.
func split(names, list []string) (in, out []string) {
	listed := setOf(list)
	for _, name := range names {
		if _, found := listed[name]; found {
			in = append(in, name)
		} else {
			out = append(out, name)
		}
	}
	return in, out
}

func setOf(l []string) map[string]struct{} {
	set := make(map[string]struct{}, len(l))
	for _, name := range l {
		set[name] = struct{}{}
	}
	return set
}

// newNames tells the first n of Name's that are not taken.
func newNames(n int, taken []string) []string {
	names, not := make([]string, 0, n), setOf(taken)
	for i := 0; len(names) < n; i++ {
		name := Name(i)
		if _, found := not[name]; !found {
			names = append(names, name)
		}
	}
	return names
}

// numbered is the i-th new name of those from from on.
func numbered(from, i int) string {
	if from < 0 {
		return "?" + strconv.Itoa(from+i)
	}
	return "?" + strconv.FormatUint(uint64(from)+uint64(i), 10) // it may be more than an int holds
}

// rename puts names in the places of variables, at once; these names are the scheme's variables then.
func rename(s api.Scheme, from, to []string) api.Scheme {
	l := make([]subst.Pair, len(from))
	for i, name := range from {
		l[i] = subst.Pair{Name: name, Type: types.Var(to[i])}
	}
	by := subst.Of(l...) // once for the whole context: it is sorted when it is made
	return api.Scheme{Vars: to, Context: by.Preds(s.Context), Type: by.Apply(s.Type)}
}
