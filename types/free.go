package types

import "paideia/api"

// Vars tells the variables that are free, each once, as they come.
func Vars(l ...api.Type) []string {
	f := finder{hidden: map[string]int{}}
	for _, t := range l {
		f.look(t)
	}
	return f.names
}

// finder looks for free variables. A name is hidden once by each TAll around that binds it, and once for good when it has been told: so one map serves both.
type finder struct {
	hidden map[string]int
	names  []string
}

func (f *finder) look(t api.Type) {
	if t.Kind == api.TVar && f.hidden[t.Name] == 0 {
		f.hidden[t.Name]++
		f.names = append(f.names, t.Name)
	}
	if t.Kind == api.TAll {
		f.hidden[t.Name]++
	}
	for _, x := range t.Args {
		f.look(x)
	}
	if t.Kind == api.TAll {
		f.hidden[t.Name]--
	}
}

// Has says whether a variable is free in a type.
func Has(t api.Type, name string) bool {
	switch {
	case t.Kind == api.TVar && t.Name == name:
		return true
	case t.Kind == api.TAll && t.Name == name:
		return false
	}
	for _, x := range t.Args {
		if Has(x, name) {
			return true
		}
	}
	return false
}
