package types_test

import (
	"math/rand"
	"reflect"
	"slices"
	"testing"

	"paideia/api"
	"paideia/printer"
	"paideia/types"
)

// dice makes types; of one seed, so that each run makes the same ones.
type dice struct{ *rand.Rand }

func (d dice) name() string { return string(rune('a' + d.Intn(4))) }

func (d dice) typ(deep int) api.Type {
	switch n := d.Intn(5); {
	case deep == 0 || n == 0:
		return tvar(d.name())
	case n == 1:
		return tall(d.name(), d.typ(deep-1))
	case n == 2:
		var args []api.Type
		for range d.Intn(4) {
			args = append(args, d.typ(deep-1))
		}
		return tcon(d.name(), args...)
	}
	return tfun(d.typ(deep-1), d.typ(deep-1))
}

// modelParts are all parts of a type, each with the names that are bound where it stands.
func modelParts(t api.Type, bound []string) (parts []api.Type, bounds [][]string) {
	parts, bounds = []api.Type{t}, [][]string{bound}
	if t.Kind == api.TAll {
		bound = append(slices.Clone(bound), t.Name)
	}
	for _, x := range t.Args {
		p, b := modelParts(x, bound)
		parts, bounds = append(parts, p...), append(bounds, b...)
	}
	return parts, bounds
}

func modelVars(t api.Type) (names []string) {
	parts, bounds := modelParts(t, nil)
	for i, x := range parts {
		if x.Kind == api.TVar && !slices.Contains(bounds[i], x.Name) && !slices.Contains(names, x.Name) {
			names = append(names, x.Name)
		}
	}
	return names
}

func TestModel(t *testing.T) {
	d := dice{rand.New(rand.NewSource(4))}
	for range 3000 {
		x := d.typ(5)
		parts, _ := modelParts(x, nil)
		areTypes(t, slices.Collect(types.All(x)), parts...)
		if got := types.Size(x); got != len(parts) {
			t.Errorf("%s: Size %d; want %d", printer.Type(x), got, len(parts))
		}
		names := modelVars(x)
		areNames(t, types.Vars(x), names...)
		for _, name := range []string{"a", "b", "c", "d"} {
			if types.Has(x, name) != slices.Contains(names, name) {
				t.Errorf("%s: Has %s", printer.Type(x), name)
			}
		}
		args, end := types.Parts(x)
		is(t, types.Fun(append(args, end)...), x)
		if end.Kind == api.TFun {
			t.Errorf("%s: a function at its end", printer.Type(x))
		}
	}
}

// Compare is an order: each of two in the same way from both sides, of three one through the other; 0 just where two are the same in each part.
func TestCompareIsAnOrder(t *testing.T) {
	d := dice{rand.New(rand.NewSource(5))}
	var l []api.Type
	for range 120 {
		l = append(l, d.typ(2))
	}
	for _, x := range l {
		for _, y := range l {
			n := types.Compare(x, y)
			same := reflect.DeepEqual(plain(x), plain(y))
			if n != -types.Compare(y, x) || (n == 0) != same || types.Same(x, y) != same {
				t.Errorf("%s, %s: %d", printer.Type(x), printer.Type(y), n)
			}
			for _, z := range l {
				if n <= 0 && types.Compare(y, z) <= 0 && types.Compare(x, z) > 0 {
					t.Errorf("%s, %s, %s: no order", printer.Type(x), printer.Type(y), printer.Type(z))
				}
			}
		}
	}
}
