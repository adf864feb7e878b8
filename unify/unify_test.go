package unify_test

import (
	"errors"
	"reflect"
	"slices"
	"strings"
	"testing"

	"paideia/api"
	"paideia/parser"
	"paideia/printer"
	"paideia/subst"
	"paideia/types"
	"paideia/unify"
)

// Types as the document draws them, made without the packages that are tested.

func tvar(name string) api.Type { return api.Type{Kind: api.TVar, Name: name} }

func tcon(name string, args ...api.Type) api.Type {
	return api.Type{Kind: api.TCon, Name: name, Args: args}
}

func tfun(from, to api.Type) api.Type {
	return api.Type{Kind: api.TFun, Args: []api.Type{from, to}}
}

// pair is what All takes.
type pair = [2]api.Type

// read is a type from its text.
func read(text string) api.Type {
	t, err := parser.Type([]byte(text))
	if err != nil {
		panic(text + ": " + err.Error())
	}
	return t
}

// readPairs are the pairs of a text such as `a ~ T b; c ~ d`.
func readPairs(text string) (l []pair) {
	for _, x := range strings.Split(text, ";") {
		a, b, found := strings.Cut(x, "~")
		if found {
			l = append(l, pair{read(a), read(b)})
		}
	}
	return l
}

// say is what a Subst tells, by names, or an error.
func say(s subst.Subst, err error) string {
	switch err {
	case nil:
	case api.ErrType:
		return "ErrType"
	case api.ErrOccur:
		return "ErrOccur"
	default:
		return "another error: " + err.Error()
	}
	var l []string
	for name, t := range s.Pairs() {
		l = append(l, name+" = "+printer.Type(t))
	}
	return strings.Join(l, "; ")
}

// answer is what is answered for pairs: by Unify where it is one.
func answer(t *testing.T, l []pair) (subst.Subst, error) {
	t.Helper()
	s, err := unify.All(l...)
	if len(l) == 1 {
		r, e := unify.Unify(l[0][0], l[0][1])
		if say(s, err) != say(r, e) {
			t.Errorf("%s: Unify: %s; All: %s", show(l), say(r, e), say(s, err))
		}
		s, err = r, e
	}
	if err != nil && !reflect.DeepEqual(s, subst.Subst{}) {
		t.Errorf("%s: beside an error: %s", show(l), say(s, nil))
	}
	return s, err
}

func show(l []pair) string {
	var texts []string
	for _, x := range l {
		texts = append(texts, printer.Type(x[0])+" ~ "+printer.Type(x[1]))
	}
	return strings.Join(texts, "; ")
}

// obeys holds what was found against what all that is found obeys.
func obeys(t *testing.T, l []pair, s subst.Subst) {
	t.Helper()
	var names []string
	for _, x := range l {
		names = append(names, types.Vars(x[0], x[1])...)
		if !types.Same(s.Apply(x[0]), s.Apply(x[1])) {
			t.Errorf("%s: %s: not one", show(l), say(s, nil))
		}
	}
	for name, found := range s.Pairs() {
		if !slices.Contains(names, name) {
			t.Errorf("%s: %s: %s is none of theirs", show(l), say(s, nil), name)
		}
		for _, in := range types.Vars(found) {
			if _, has := s.Get(in); has || !slices.Contains(names, in) {
				t.Errorf("%s: %s: %s stands in %s's type", show(l), say(s, nil), in, name)
			}
		}
	}
}

// asked holds answers against those that are asked for: `a ~ T b; c ~ d` and what say tells, by turns.
func asked(t *testing.T, texts ...string) {
	t.Helper()
	for i := 0; i < len(texts); i += 2 {
		l := readPairs(texts[i])
		s, err := answer(t, l)
		if got := say(s, err); got != texts[i+1] {
			t.Errorf("%s: %s; want %s", texts[i], got, texts[i+1])
		}
		if err == nil {
			obeys(t, l, s)
		}
		swapped(t, l, s, err)
	}
}

// swapped hands the types in the other way round: they are one then too, or not. (Which of two errors tells is the same: what stands ahead is not changed by it.)
func swapped(t *testing.T, l []pair, s subst.Subst, err error) {
	t.Helper()
	var back []pair
	for _, x := range l {
		back = append(back, pair{x[1], x[0]})
	}
	r, e := answer(t, back)
	if e != err || r.Len() != s.Len() {
		t.Errorf("%s: %s; swapped: %s", show(l), say(s, err), say(r, e))
	}
	if e == nil {
		obeys(t, back, r)
	}
}

func TestSameVariable(t *testing.T) {
	asked(t,
		"a ~ a", "",
		"T a ~ T a", "",
		"a -> a ~ a -> a", "",
		"T a (b -> U a) ~ T a (b -> U a)", "",
		"T a b ~ T a c", "b = c",
	)
}

func TestVariableOnTheLeft(t *testing.T) {
	asked(t,
		"a ~ b", "a = b",
		"b ~ a", "b = a",
		"a ~ T", "a = T",
		"a ~ T b", "a = T b",
		"a ~ T b b (U b -> V)", "a = T b b (U b -> V)",
		"a ~ b -> b", "a = b -> b",
		"T a ~ T b", "a = b",
		"T b ~ T a", "b = a",
		"a -> c ~ b -> d", "a = b; c = d",
	)
}

func TestVariableOnTheRight(t *testing.T) {
	asked(t,
		"T ~ a", "a = T",
		"T b ~ a", "a = T b",
		"T b b (U b -> V) ~ a", "a = T b b (U b -> V)",
		"b -> b ~ a", "a = b -> b",
		"T U b ~ T a V", "a = U; b = V",
		"(T -> b) -> U ~ a -> c", "a = T -> b; c = U",
	)
}

func TestVariableInTheOther(t *testing.T) {
	for _, in := range []string{
		"T a", "T b a", "T a a", "a -> b", "b -> a", "a -> a", "T (U (V a))", "T b (U c V (d -> W a))", "(b -> c -> a) -> d", "b -> c -> d -> a", "T U -> T a",
	} {
		asked(t,
			"a ~ "+in, "ErrOccur",
			in+" ~ a", "ErrOccur",
			"P a ~ P ("+in+")", "ErrOccur",
			"c -> a ~ c -> "+in, "ErrOccur",
		)
	}
	// by what was found so far, it stands there too
	asked(t,
		"a -> b ~ T b -> T a", "ErrOccur",
		"P a b ~ P (T b) (T a)", "ErrOccur",
		"P a b ~ P b (T a)", "ErrOccur",
		"P a b a ~ P b c (T c)", "ErrOccur",
		"P a b c ~ P (T b) (T c) (T a)", "ErrOccur",
		"P (T b) (T c) (T a) ~ P a b c", "ErrOccur",
		"P a b a ~ P (T c) (T (T c)) b", "ErrOccur",
		"P a b a ~ P (T d) (T (T c)) b", "a = T (T c); b = T (T c); d = T c",
		"P a a ~ P b (U -> b)", "ErrOccur",
		"P a a ~ P (U b) (U (U b))", "ErrOccur",
	)
	// a constructor of the variable's name is none
	if s, err := unify.Unify(tvar("a"), tcon("a", tcon("a"))); err != nil || s.Len() != 1 {
		t.Error(say(s, err))
	}
}

func TestFunctions(t *testing.T) {
	asked(t,
		"T -> U ~ T -> U", "",
		"T -> U ~ T -> V", "ErrType",
		"T -> U ~ V -> U", "ErrType",
		"T -> U ~ U -> T", "ErrType",
		"a -> U ~ T -> b", "a = T; b = U",
		"a -> a ~ T -> b", "a = T; b = T",
		"a -> b ~ b -> a", "a = b",
		"a -> b -> c ~ T -> U -> V", "a = T; b = U; c = V",
		"a -> b ~ T -> U -> V", "a = T; b = U -> V",
		"(a -> b) -> c ~ d -> T", "c = T; d = a -> b",
		"(T -> T) -> T ~ T -> T -> T", "ErrType",
	)
}

func TestConstructors(t *testing.T) {
	asked(t,
		"T ~ T", "",
		"T ~ U", "ErrType",
		"T ~ T a", "ErrType",
		"T a ~ T", "ErrType",
		"T a ~ T a b", "ErrType",
		"T a b ~ T a", "ErrType",
		"T a ~ U a", "ErrType",
		"T a ~ U b", "ErrType",
		"T a b ~ U a b", "ErrType",
		"T a ~ T U", "a = U",
		"T a b ~ T U V", "a = U; b = V",
		"T (U a) b ~ T c (V c)", "b = V (U a); c = U a",
		"T (U a) ~ T (V a)", "ErrType",
		"T (U a) ~ T (U a b)", "ErrType",
		"T a b c d ~ T b c d e", "a = e; b = e; c = e; d = e",
	)
}

func TestFunctionAndConstructor(t *testing.T) {
	asked(t,
		"T ~ a -> b", "ErrType",
		"a -> b ~ T", "ErrType",
		"T a b ~ a -> b", "ErrType",
		"a -> b ~ T a b", "ErrType",
		"T (a -> b) ~ T (U a b)", "ErrType",
		"T -> a ~ T -> U -> a", "ErrOccur",
		"a -> T ~ a -> T -> T", "ErrType",
	)
	// whatever the constructor's name is
	if s, err := unify.Unify(tfun(tvar("a"), tvar("b")), tcon("", tvar("a"), tvar("b"))); err != api.ErrType {
		t.Error(say(s, err))
	}
}

// What was found so far counts for the rest, and for what was found ahead of it.
func TestVariableSeveralTimes(t *testing.T) {
	asked(t,
		"P a a ~ P T T", "a = T",
		"P a a ~ P T U", "ErrType",
		"P T U ~ P a a", "ErrType",
		"P a T ~ P U a", "ErrType",
		"P a T ~ P T a", "a = T",
		"P a a ~ P (T b) (T c)", "a = T c; b = c",
		"P (T b) (T c) ~ P a a", "a = T b; c = b",
		"P a (T c) ~ P (T b) a", "a = T b; c = b",
		"P a a ~ P (T b U) (T V c)", "a = T V U; b = V; c = U",
		"P a b b ~ P (T b) (U c) (U V)", "a = T (U V); b = U V; c = V",
		"P a b c ~ P (T b) (T c) U", "a = T (T U); b = T U; c = U",
		"P c b a ~ P U (T c) (T b)", "a = T (T U); b = T U; c = U",
		"P a a a ~ P b c d", "a = d; b = d; c = d",
		"P a a a ~ P b T c", "a = T; b = T; c = T",
		"P a b a ~ P b a T", "a = T; b = T",
		"a -> a -> a ~ T b -> T c -> T U", "a = T U; b = U; c = U",
		"P a a a ~ P (b -> c) (c -> d) (d -> e)", "a = e -> e; b = e; c = e; d = e",
		"P a a b b ~ P (T c) (T d) a (T U)", "a = T U; b = T U; c = U; d = U",
	)
}

// Rows of variables, each one with the next.
func TestRows(t *testing.T) {
	asked(t,
		"P a b c ~ P b c d", "a = d; b = d; c = d",
		"P b c d ~ P a b c", "b = a; c = a; d = a",
		"P c b a ~ P d c b", "a = d; b = d; c = d",
		"P d c b ~ P c b a", "b = a; c = a; d = a",
		"P a c b ~ P b d c", "a = d; b = d; c = d",
		"P a b c d ~ P b c d a", "a = d; b = d; c = d",
		"P a b c d ~ P b c d T", "a = T; b = T; c = T; d = T",
		"P a b c d ~ P b c d (T e)", "a = T e; b = T e; c = T e; d = T e",
		"P a b c d ~ P b c d (T a)", "ErrOccur",
		"P T a b c ~ P a b c U", "ErrType",
		"P T a b c ~ P a b c T", "a = T; b = T; c = T",
		"P a b c ~ P (T b b) (T c c) (T d d)", "a = T (T (T d d) (T d d)) (T (T d d) (T d d)); b = T (T d d) (T d d); c = T d d",
	)
}

// The first error from the left tells.
func TestFirstErrorTells(t *testing.T) {
	asked(t,
		"P a T ~ P (L a) U", "ErrOccur",
		"P T a ~ P U (L a)", "ErrType",
		"P (L a) T ~ P a U", "ErrOccur",
		"a -> T ~ L a -> U", "ErrOccur",
		"T -> a ~ U -> L a", "ErrType",
		"P (Q b a) T ~ P (Q c (L a)) U", "ErrOccur",
		"P (Q b T) a ~ P (Q c U) (L a)", "ErrType",
		"P a (Q T b) ~ P b (Q T (L a))", "ErrOccur",
		"P a b T ~ P (L b) (L a) U", "ErrOccur",
		"P a T b ~ P (L b) U (L a)", "ErrType",
		"P a a (L a) ~ P T U a", "ErrType",
		"P a b c ~ P b (L a) (L c)", "ErrOccur",
		"T a ~ U (L a)", "ErrType",
		"P a ~ P (L a) b", "ErrType",
		"P a b a ~ P (L c) (L (L c)) b", "ErrOccur",
		"P a b a ~ P (Q T c) (Q U (Q T c)) b", "ErrType",
		"P a b a ~ P (Q c T) (Q (Q c T) U) b", "ErrOccur",
		"a ~ L a; T ~ U", "ErrOccur",
		"T ~ U; a ~ L a", "ErrType",
		"a ~ L b; b ~ L a; T ~ U", "ErrOccur",
		"a ~ L b; T ~ U; b ~ L a", "ErrType",
		"a ~ Q T c; a ~ Q U a", "ErrType",
		"a ~ Q c T; a ~ Q a U", "ErrOccur",
	)
}

// What stands within another by what was found ahead is met as it is: its parts don't count as one ahead of these.
func TestWithinItself(t *testing.T) {
	asked(t,
		"a ~ L b; a ~ L a", "ErrOccur",
		"a ~ L b; L a ~ a", "ErrOccur",
		"a ~ L (L b); a ~ L a", "ErrOccur",
		"a ~ Q b T; a ~ Q a a", "ErrOccur",
		"a ~ Q T b; a ~ Q a a", "ErrType",
		"a ~ Q b T; Q a U ~ Q (Q c a) T", "ErrType",
		"a ~ Q (L b) T; a ~ Q (L a) U", "ErrOccur",
		"a ~ Q (L T) b; a ~ Q (L a) b", "ErrType",
	)
}

// Each of these would go round for ever.
func TestRoundAndRound(t *testing.T) {
	asked(t,
		"a ~ L a; b ~ L b; a ~ b", "ErrOccur",
		"P a b a ~ P (L a) (L b) b", "ErrOccur",
		"P a b a ~ P (a -> a) (b -> b) b", "ErrOccur",
		"a ~ L (L a); b ~ L (L (L b)); a ~ b; T ~ U", "ErrOccur",
		"a ~ Q b b; b ~ Q a a; c ~ Q d d; d ~ Q c c; a ~ c; b ~ d; a ~ d", "ErrOccur",
		"a ~ Q a b; b ~ Q b a; c ~ Q c d; d ~ Q d c; a ~ c; a ~ d; c ~ b", "ErrOccur",
		"a ~ L a; a ~ L (L a); a ~ L (L (L a)); a ~ T", "ErrOccur",
	)
}

func TestAll(t *testing.T) {
	asked(t,
		"", "",
		"a ~ a", "",
		"a ~ T", "a = T",
		"a ~ T; b ~ U", "a = T; b = U",
		"b ~ T a; a ~ U", "a = U; b = T U",
		"a ~ U; b ~ T a", "a = U; b = T U",
		"a ~ b; b ~ c; c ~ d", "a = d; b = d; c = d",
		"c ~ d; b ~ c; a ~ b", "a = d; b = d; c = d",
		"a ~ b; a ~ c; a ~ d", "a = d; b = d; c = d",
		"a ~ b; c ~ a; T ~ c", "a = T; b = T; c = T",
		"a ~ L b; b ~ I; c ~ a -> b", "a = L I; b = I; c = L I -> I",
		"a ~ T; a ~ T; T ~ a", "a = T",
		"T a ~ T b; U b ~ U V; W ~ W", "a = V; b = V",
		"a -> b ~ c; c ~ d -> T; d ~ U", "a = U; b = T; c = U -> T; d = U",
	)
	// one alone, but not together
	asked(t,
		"a ~ T; a ~ U", "ErrType",
		"a ~ T; b ~ U; a ~ b", "ErrType",
		"a ~ T; a ~ T b", "ErrType",
		"a ~ T; a ~ b -> c", "ErrType",
		"a ~ b; b ~ L a", "ErrOccur",
		"a ~ L b; b ~ L a", "ErrOccur",
		"a ~ L b; b ~ c; c ~ d -> a", "ErrOccur",
		"a ~ L b; a ~ L c; b ~ T; c ~ U", "ErrType",
	)
	asked(t, "a ~ T; b ~ c; U ~ V; d ~ e", "ErrType")
}

func TestOneOfManyTells(t *testing.T) {
	var l []pair
	for range 50 {
		l = append(l, readPairs("a ~ T b; c ~ d -> a; P d d ~ P e U; f ~ f")...)
	}
	const want = "a = T b; c = U -> T b; d = U; e = U"
	s, err := answer(t, l)
	if say(s, err) != want {
		t.Error(say(s, err))
	}
	for i := range l {
		x := slices.Insert(slices.Clone(l), i+1, readPairs("U ~ V; g ~ L g")...)
		if _, err := answer(t, x); err != api.ErrType {
			t.Error(i, err)
		}
		x[i+1], x[i+2] = x[i+2], x[i+1]
		if _, err := answer(t, x); err != api.ErrOccur {
			t.Error(i, err)
		}
	}
}

// The errors are package api's own ones.
func TestErrors(t *testing.T) {
	_, err := unify.Unify(read("T"), read("U"))
	if !errors.Is(err, api.ErrType) || errors.Is(err, api.ErrOccur) {
		t.Error(err)
	}
	_, err = unify.Unify(read("a"), read("T a"))
	if !errors.Is(err, api.ErrOccur) || errors.Is(err, api.ErrType) {
		t.Error(err)
	}
}
