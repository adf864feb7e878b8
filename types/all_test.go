package types_test

import (
	"slices"
	"strings"
	"testing"

	"paideia/api"
	"paideia/printer"
	"paideia/types"
)

// told is what All tells of a type, as text.
func told(t api.Type) string {
	var l []string
	for x := range types.All(t) {
		l = append(l, printer.Type(x))
	}
	return strings.Join(l, "; ")
}

func TestAll(t *testing.T) {
	for text, want := range map[string]string{
		"a":                     "a",
		"T":                     "T",
		"T a":                   "T a; a",
		"T a a":                 "T a a; a; a",
		"T b U a":               "T b U a; b; U; a",
		"a -> b":                "a -> b; a; b",
		"a -> b -> c":           "a -> b -> c; a; b -> c; b; c",
		"(a -> b) -> c":         "(a -> b) -> c; a -> b; a; b; c",
		"T (U a V) (b -> W c)":  "T (U a V) (b -> W c); U a V; a; V; b -> W c; b; W c; c",
		"T (T (T a)) (T (T b))": "T (T (T a)) (T (T b)); T (T a); T a; a; T (T b); T b; b",
	} {
		if got := told(read(text)); got != want {
			t.Errorf("%s: %s; want %s", text, got, want)
		}
	}
	if got := told(tall("a", tfun(tvar("a"), tall("b", tvar("b"))))); got != "forall a. a -> forall b. b; a -> forall b. b; a; forall b. b; b" {
		t.Error(got)
	}
}

// Each part is told whole.
func TestAllTellsWholes(t *testing.T) {
	a, in := tvar("a"), tcon("U", tvar("b"), tcon("V"))
	whole := tcon("T", tall("c", a), tfun(in, a))
	areTypes(t, slices.Collect(types.All(whole)), whole, tall("c", a), a, tfun(in, a), in, tvar("b"), tcon("V"), a)
}

func TestAllStopped(t *testing.T) {
	whole := read("T (U a b) (b -> c) d")
	want := slices.Collect(types.All(whole))
	if len(want) != 8 {
		t.Fatal(len(want))
	}
	for most := 1; most <= len(want); most++ {
		var got []api.Type
		for x := range types.All(whole) {
			got = append(got, x)
			if len(got) == most {
				break
			}
		}
		areTypes(t, got, want[:most]...)
		calls := 0
		types.All(whole)(func(api.Type) bool {
			calls++
			return calls < most
		})
		if calls != most {
			t.Errorf("%d calls behind the stop", calls-most)
		}
	}
}

func TestAllTwice(t *testing.T) {
	whole := read("T (U a b) (b -> c) d")
	want := slices.Collect(types.All(whole))
	all := types.All(whole)
	for range all {
		break
	}
	areTypes(t, slices.Collect(all), want...)
	areTypes(t, slices.Collect(all), want...)
	n := 0
	for x := range all { // one range within the other
		is(t, x, want[n])
		areTypes(t, slices.Collect(all), want...)
		n++
	}
	if n != len(want) {
		t.Error(n)
	}
}
