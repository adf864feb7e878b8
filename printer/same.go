package printer

import (
	"slices"

	"paideia/api"
)

// Same says whether two expressions are the same, but for places.
func Same(a, b api.Expr) bool {
	return a.Kind == b.Kind && a.Name == b.Name && a.N == b.N &&
		slices.EqualFunc(a.L, b.L, Same) &&
		slices.EqualFunc(a.Alts, b.Alts, sameAlt) &&
		sameBinds(a.Binds, b.Binds)
}

// SameProgram says whether two programs are the same, but for places.
func SameProgram(a, b api.Program) bool {
	return slices.EqualFunc(a.Datas, b.Datas, sameData) &&
		slices.EqualFunc(a.Classes, b.Classes, sameClass) &&
		slices.EqualFunc(a.Instances, b.Instances, sameInstance) &&
		sameBinds(a.Binds, b.Binds)
}

func sameAlt(a, b api.Alt) bool {
	return a.Con == b.Con && slices.Equal(a.Vars, b.Vars) && Same(a.Body, b.Body)
}

func sameBinds(a, b []api.Bind) bool { return slices.EqualFunc(a, b, sameBind) }

func sameBind(a, b api.Bind) bool {
	return a.Name == b.Name && a.Signed == b.Signed && sameScheme(a.Sig, b.Sig) && Same(a.Body, b.Body)
}

func sameScheme(a, b api.Scheme) bool {
	return slices.Equal(a.Vars, b.Vars) && sameContext(a.Context, b.Context) && sameType(a.Type, b.Type)
}

func sameContext(a, b []api.Pred) bool { return slices.EqualFunc(a, b, samePred) }

func samePred(a, b api.Pred) bool { return a.Class == b.Class && sameType(a.Type, b.Type) }

func sameType(a, b api.Type) bool {
	return a.Kind == b.Kind && a.Name == b.Name && sameTypes(a.Args, b.Args)
}

func sameTypes(a, b []api.Type) bool { return slices.EqualFunc(a, b, sameType) }

func sameData(a, b api.Data) bool {
	return a.Name == b.Name && slices.Equal(a.Vars, b.Vars) &&
		slices.EqualFunc(a.Cons, b.Cons, sameCon) && slices.Equal(a.Deriving, b.Deriving)
}

func sameCon(a, b api.Con) bool { return a.Name == b.Name && sameTypes(a.Args, b.Args) }

func sameClass(a, b api.Class) bool {
	return a.Name == b.Name && a.Var == b.Var && slices.Equal(a.Supers, b.Supers) &&
		slices.EqualFunc(a.Methods, b.Methods, sameMethod) && sameBinds(a.Defaults, b.Defaults)
}

func sameMethod(a, b api.Method) bool { return a.Name == b.Name && sameType(a.Type, b.Type) }

func sameInstance(a, b api.Instance) bool {
	return a.Class == b.Class && a.Con == b.Con && slices.Equal(a.Vars, b.Vars) &&
		sameContext(a.Context, b.Context) && sameBinds(a.Binds, b.Binds)
}
