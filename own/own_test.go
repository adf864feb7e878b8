package own_test

import (
	"reflect"
	"testing"

	"paideia/api"
	"paideia/own"
	"paideia/parser"
	"paideia/types"
)

// binds are of all kinds of expressions, with signatures at the outermost and within.
func binds() []api.Bind {
	p, err := parser.Program([]byte("f :: (A a, B (L b c)) => a -> L b (c -> d); f x = \\y -> case x y of { N -> let { v :: C c => P c; v = 'v'; w z = z + 1 } in v w; C _ z -> if z then 1 else f; other -> other }; g = f"))
	if err != nil {
		panic(err.Error())
	}
	return p.Binds
}

// roomyOf is a copy of a value in which each list has room behind it, and that is all zero values.
func roomyOf(v reflect.Value) reflect.Value {
	made := reflect.New(v.Type()).Elem()
	switch v.Kind() {
	case reflect.Slice:
		made.Set(reflect.MakeSlice(v.Type(), v.Len(), v.Len()+2))
		for i := range v.Len() {
			made.Index(i).Set(roomyOf(v.Index(i)))
		}
	case reflect.Struct:
		for i := range v.NumField() {
			made.Field(i).Set(roomyOf(v.Field(i)))
		}
	default:
		made.Set(v)
	}
	return made
}

// plain is a value as lists of its parts, in which nil and the empty list are the same.
func plain(v reflect.Value) any {
	l := []any{}
	switch v.Kind() {
	case reflect.Slice:
		for i := range v.Len() {
			l = append(l, plain(v.Index(i)))
		}
	case reflect.Struct:
		for i := range v.NumField() {
			l = append(l, plain(v.Field(i)))
		}
	default:
		return v.Interface()
	}
	return l
}

// cells adds where each list of a value has its memory, to the ends; and counts what stands in two lists.
func cells(v reflect.Value, seen map[uintptr]bool) (shared int) {
	switch v.Kind() {
	case reflect.Slice:
		for i := range v.Cap() {
			at := v.Slice(0, v.Cap()).Index(i).Addr().Pointer()
			if seen[at] {
				shared++
			}
			seen[at] = true
		}
		for i := range v.Len() {
			shared += cells(v.Index(i), seen)
		}
	case reflect.Struct:
		for i := range v.NumField() {
			shared += cells(v.Field(i), seen)
		}
	}
	return shared
}

// isOwn asks of a value and two copies of it that they are the same, and share nothing.
func isOwn(t *testing.T, given, first, second any) {
	t.Helper()
	seen := map[uintptr]bool{}
	for i, x := range []any{given, first, second} {
		if !reflect.DeepEqual(plain(reflect.ValueOf(x)), plain(reflect.ValueOf(given))) {
			t.Errorf("%d: %v; want %v", i, x, given)
		}
		if n := cells(reflect.ValueOf(x), seen); n > 0 {
			t.Errorf("%d: %d shared", i, n)
		}
	}
}

func TestBinds(t *testing.T) {
	for _, l := range [][]api.Bind{binds(), roomyOf(reflect.ValueOf(binds())).Interface().([]api.Bind), binds()[:0], nil, {{}}} {
		isOwn(t, l, own.Binds(l), own.Binds(l))
	}
}

func TestPreds(t *testing.T) {
	for _, l := range [][]api.Pred{binds()[0].Sig.Context, roomyOf(reflect.ValueOf(binds()[0].Sig.Context)).Interface().([]api.Pred), binds()[0].Sig.Context[:0], nil, {{}}} {
		isOwn(t, l, own.Preds(l), own.Preds(l))
	}
}

func TestType(t *testing.T) {
	for _, x := range []api.Type{binds()[0].Sig.Type, roomyOf(reflect.ValueOf(binds()[0].Sig.Type)).Interface().(api.Type), types.Var("a"), {Kind: api.TVar, Name: "a", Args: make([]api.Type, 0, 2)}, {Kind: api.TAll, Name: "a", Args: []api.Type{types.Con("L", types.Var("a"))}}, {}} {
		isOwn(t, x, own.Type(x), own.Type(x))
	}
}
