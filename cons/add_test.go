package cons_test

import (
	"fmt"
	"slices"
	"strings"
	"testing"

	"paideia/api"
	"paideia/cons"
	"paideia/parser"
)

func readDatas(text string) []api.Data {
	p, err := parser.Program([]byte(text))
	if err != nil {
		panic(text + ": " + err.Error())
	}
	return p.Datas
}

func readType(text string) api.Type {
	t, err := parser.Type([]byte(text))
	if err != nil {
		panic(text + ": " + err.Error())
	}
	return t
}

const knownText = "data L a = N | C a (L a) deriving (Eq, Show); data P a b = P (L a) (a -> b) Int; data U = U"

// known has a type of one argument, one of two, one of none.
func known() *cons.Env { return with(knownText) }

func with(text string) *cons.Env {
	var e cons.Env
	if err := e.Add(readDatas(text)...); err != nil {
		panic(text + ": " + err.Error())
	}
	return &e
}

// say is an error in words: what it is, and its place.
func say(err error) string {
	if err == nil {
		return "nothing"
	}
	at, ok := err.(*api.At)
	if !ok || at == nil {
		return "no place: " + err.Error()
	}
	switch at.Err {
	case api.ErrScope, api.ErrTwice, api.ErrKind:
		return at.Error()
	}
	return "none of ErrScope, ErrTwice, ErrKind: " + at.Error()
}

// someNames are names that stand in the tests.
func someNames() []string {
	return []string{"", "Int", "Char", "L", "N", "C", "P", "U", "T", "V", "W", "X", "Y", "Z", "Q", "a", "->", "A", "B", "D"}
}

// tellOf is all that an Env tells of a name.
func tellOf(e *cons.Env, name string) string {
	n, is := e.Arity(name)
	text := fmt.Sprintf("%s: %d %t", name, n, is)
	s, is := e.Scheme(name)
	text += fmt.Sprintf("; %v %t", s, is)
	typ, place, is := e.Place(name)
	text += fmt.Sprintf("; %s %d %t", typ, place, is)
	d, is := e.Data(name)
	text += fmt.Sprintf("; %v %t", d, is)
	for n := range 3 {
		args := slices.Repeat([]api.Type{{Kind: api.TVar, Name: "a"}}, n)
		text += fmt.Sprintf("; %v", e.Kind(api.Type{Kind: api.TCon, Name: name, Args: args}))
	}
	return text + "\n"
}

// tell is all that an Env tells.
func tell(e *cons.Env) string {
	var text strings.Builder
	for _, name := range someNames() {
		text.WriteString(tellOf(e, name))
	}
	for _, d := range e.Datas() {
		text.WriteString(fmt.Sprintf("%v\n", d))
	}
	return text.String()
}

// addFault adds the definitions of a text to known: err around the @ of the text, which is no word of the language; nothing, if err is nil. Behind an error all is as it was.
func addFault(t *testing.T, text string, err error) {
	t.Helper()
	pos, want := strings.Index(text, "@"), error(nil)
	if err != nil {
		want = &api.At{Pos: pos, Err: err}
	}
	if (pos < 0) != (err == nil) {
		t.Fatal("no place, or one too much:", text)
	}
	e := known()
	before := tell(e)
	l := readDatas(strings.Replace(text, "@", "", 1))
	got := e.Add(l...)
	if say(got) != say(want) {
		t.Errorf("%s: %s; want %s", text, say(got), say(want))
		return
	}
	if err != nil && tell(e) != before {
		t.Errorf("%s: behind an error it tells\n%s; before that\n%s", text, tell(e), before)
	}
	if err == nil && len(e.Datas()) != 3+len(l) {
		t.Errorf("%s: there are %d", text, len(e.Datas()))
	}
}

func isWell(t *testing.T, texts ...string) {
	t.Helper()
	for _, text := range texts {
		addFault(t, text, nil)
	}
}

func isTwice(t *testing.T, texts ...string) {
	t.Helper()
	for _, text := range texts {
		addFault(t, text, api.ErrTwice)
	}
}

func isNobodys(t *testing.T, texts ...string) {
	t.Helper()
	for _, text := range texts {
		addFault(t, text, api.ErrScope)
	}
}

func isKind(t *testing.T, texts ...string) {
	t.Helper()
	for _, text := range texts {
		addFault(t, text, api.ErrKind)
	}
}

func TestAddOfNothing(t *testing.T) {
	isWell(t, "", ";;", "x = 1")
	for _, e := range []*cons.Env{{}, known()} {
		before := tell(e)
		for range 2 {
			for i, err := range []error{e.Add(), e.Add(nil...), e.Add([]api.Data{}...), e.Add(readDatas(knownText)[:0]...)} {
				if err != nil || tell(e) != before {
					t.Errorf("%d: %s; then it tells\n%s; before that\n%s", i, say(err), tell(e), before)
				}
			}
		}
	}
}

func TestTypesTwice(t *testing.T) {
	isTwice(t,
		"@data Int = X",
		"@data Char = X",
		"@data Int a = X a",
		"data T = X; @data Int = Y",
		"@data L = X",
		"@data L a = X a",
		"@data P a = X a",
		"@data U = X",
		"data T = X; @data U = Y",
		"data T = X; @data T = Y",
		"data T = X; @data T a = Y",
		"data T a = X; @data T b = Y b",
		"data T = X; data V = Y; @data T = Z",
		"data T = X; data V = Y; data W = Z; @data V = A",
	)
	// those that are the same but for a part of the name
	isWell(t, "data Ints = X", "data Cha = X", "data L' = X", "data LL = X", "data T = X; data T' = Y; data T1 = Z", "data List = X; data Lis = Y; data Listt = Z")
}

func TestConstructorsTwice(t *testing.T) {
	isTwice(t,
		"@data T = N",
		"@data T = C",
		"@data T = P",
		"@data T a = C a (T a)",
		"@data T = X | N",
		"@data T = X | Y | U",
		"data T = X; @data V = Y | C",
		"@data T = X | X",
		"@data T = X | Y | X",
		"@data T a = X a | X",
		"data T = X; @data V = Y | Z | Z",
		"data T = X; @data V = X",
		"data T = X | Y; @data V = Z | Y",
		"data T = X | Y; data V = Z; @data W = A | X",
	)
	isWell(t, "data T = N' | CC | X | X' | X1", "data T = Nil | Ni | Nill")
}

// A type and a constructor may have one name: of one type, of others, of what is always there.
func TestTypesAndConstructorsOfOneName(t *testing.T) {
	isWell(t,
		"data T = T",
		"data T a = T a (T a) | V",
		"data N = X",
		"data C = X; data N a b = C' a N'; data N' = N'",
		"data T = L",
		"data T = L | Int | Char | T",
		"data T = V; data V = W; data W = T",
		"data T = X; data X = T",
	)
	isTwice(t, "data T = T; @data V = T", "data T = V; data V = W; @data W = V", "data T = Int; @data V = Int", "data T = Char | L; @data L = L")
	// a constructor's name is no type's
	isNobodys(t, "@data T = X N", "@data T = X C", "@data T = X X", "@data T = X (C a)", "@data T a = X (Y a) | Y a", "data T = Y; @data V = X Y")
}

// Each of the row is held against those ahead of it: the later one is amiss.
func TestTwiceTellsTheFirst(t *testing.T) {
	isTwice(t,
		"@data T = N; data Int = X; data T = Y",
		"data T = X; @data T = Y; data V = X",
		"data T = X; @data V = X; data T = Y",
		"data T = X; @data V = X; data W = N",
		"@data L = X; data L = Y",
		"@data L = N | N; data P = N",
		"data T = X; @data T = X; data T = X",
		"data V = Y; data T = X | Z; data W = A; @data D = Z | Y; data V = B",
	)
}

// So each is looked at for names ahead of all that they are made of.
func TestTwiceAheadOfOthers(t *testing.T) {
	isTwice(t,
		"data T = X Q; @data V = N",
		"data T = X L; @data L = Y",
		"data T = X b; @data T = Y",
		"data T = X Q; data V = Y (Int a); data W = Z b; @data D = X",
		"@data T = X Q | X",
		"@data T = X Q L b | Y | X Q",
		"@data Int = X Q",
		"@data L a = X b; data V = Y Q",
		"@data T = X (T Int) | N",
	)
}

// eachAmiss are types that are amiss in a type of the variable a, with what tells it.
func eachAmiss() map[string]error {
	return map[string]error{
		"Q": api.ErrScope, "(Q a)": api.ErrScope, "(Q a Int)": api.ErrScope, "N": api.ErrScope, "(C a (L a))": api.ErrScope, "Ints": api.ErrScope,
		"L": api.ErrKind, "(L a a)": api.ErrKind, "(L a Int a)": api.ErrKind, "P": api.ErrKind, "(P a)": api.ErrKind, "(P a a a)": api.ErrKind,
		"(U a)": api.ErrKind, "(U Int)": api.ErrKind, "(Int a)": api.ErrKind, "(Int Int)": api.ErrKind, "(Char a)": api.ErrKind, "(Char a a)": api.ErrKind,
		"T": api.ErrKind, "(T a a)": api.ErrKind,
		"b": api.ErrScope, "a'": api.ErrScope, "aa": api.ErrScope,
	}
}

func TestEachWhereverItStands(t *testing.T) {
	for _, around := range []string{
		"%", "(L %)", "(P % a)", "(P a %)", "(T %)", "(% -> a)", "(a -> %)", "(Int -> a -> %)", "(Int -> % -> a)", "((a -> %) -> a)", "((% -> a) -> a)",
		"(L (L %))", "(L (a -> %))", "(L % -> a)", "(P (L (a -> P a %)) Int)", "(P (L (P % a)) (a -> a))", "(T (T (T %)))",
	} {
		for _, row := range []string{
			"@data T a = X ?", "@data T a = X a ?", "@data T a = X ? a", "@data T a = X Int (L a) ? Char", "@data T a = X | Y ?", "@data T a = X | Y a ? | Z", "@data T a = X ? | Y | Z",
			"data V a b = W a b; @data T a = X ?", "@data T a = X ?; data V a b = W a b", "data V b = W b; data A = B; @data T a = X a | Y ?; data D = D T'; data T' = T'",
		} {
			for amiss, err := range eachAmiss() {
				addFault(t, strings.Replace(row, "?", strings.Replace(around, "%", amiss, 1), 1), err)
			}
			for _, well := range []string{"a", "Int", "Char", "U", "(L a)", "(P a Int)", "(T a)", "(a -> a)", "(L (P a (T Char)) -> U)"} {
				isWell(t, strings.Replace(strings.Replace(row, "@", "", 1), "?", strings.Replace(around, "%", well, 1), 1))
			}
		}
	}
}

// A type's variables are its own alone.
func TestOwnVariables(t *testing.T) {
	isWell(t, "data T a = X a", "data T a b = X b a", "data T a b c = X (c -> b) a | Y c", "data T a b = X", "data T a b = X b", "data T aa a1 a' = X a' aa a1", "data T b = X b; data V a = Y a")
	isNobodys(t,
		"@data T = X a",
		"@data T a = X b",
		"@data T a = X a b",
		"@data T a b = X a b | Y b c",
		"data V b = Y b; @data T a = X b",
		"@data T a = X b; data V b = Y b",
		"data V a = Y a; @data T = X a",
		"@data T a1 = X a",
		"@data T a = X a1",
		"@data T x = X (x -> y)",
	)
}

// Types of the row are there, wherever they stand in it, and so are those of earlier rows.
func TestTypesOfTheRow(t *testing.T) {
	isWell(t,
		"data T = X T",
		"data T a = X (T a) (T (T a))",
		"data T = X V; data V = Y",
		"data T a = X (V a a) W; data W = Z; data V a b = Y a b",
		"data T = X V; data V = Y T",
		"data T = X V | A; data V = Y W; data W = Z T V",
		"data T a = X (V a); data V a = Y (T a) (L (V Int))",
		"data T a = X (L a) (P a (V a)) | Y (U -> V U); data V b = Z",
	)
	isNobodys(t, "@data T = X V", "data T = X V; @data V = Y W", "@data T = X V; data W = Y T", "data V = V; @data T = X V'")
	isKind(t, "@data T = X (V Int); data V = Y", "@data T = X V; data V a = Y", "@data T a = X (V a); data V a b = Y", "data V a b = Y; @data T a = X (V a a a)", "@data T = X (T T)", "data T a = X; @data V = Y T")
}

// Two that are amiss in one argument: of constructors by the order of types.All.
func TestTwoConstructorsInOneArgument(t *testing.T) {
	isNobodys(t,
		"@data T a = X (Q -> L)",
		"@data T a = X (P Q L)",
		"@data T a = X (Q L)",
		"@data T a = X (L (Q L))",
		"@data T a = X (P (L Q) (Int a))",
		"@data T a = X ((a -> Q) -> L)",
		"@data T a = X (a -> Q -> L)",
		"@data T a = X (P (L (L Q)) L)",
		"@data T a = X (L (L (Q (Int a))))",
		"@data T a = X (Q (Int a) -> L)",
	)
	isKind(t,
		"@data T a = X (L -> Q)",
		"@data T a = X (P L Q)",
		"@data T a = X (L Q Q)",
		"@data T a = X (Int (Q a))",
		"@data T a = X (L (Int (Q a)))",
		"@data T a = X (P (L L) Q)",
		"@data T a = X ((a -> L) -> Q)",
		"@data T a = X (a -> L -> Q)",
		"@data T a = X (P (L (L L)) Q)",
		"@data T a = X (P Q)",
		"@data T a = X (L Q (Int a) -> Q)",
	)
}

// Of one argument what is amiss with constructors tells, wherever a variable stands that is none of its type's own: the chapter names that one behind.
func TestVariablesBehindConstructors(t *testing.T) {
	isKind(t,
		"@data T a = X (Int b)",
		"@data T a = X (L b b)",
		"@data T a = X (L -> b)",
		"@data T a = X (b -> L)",
		"@data T a = X (P b L)",
		"@data T a = X (P L b)",
		"@data T a = X (L (Int a) -> b)",
		"@data T a = X (b -> L (Int a))",
		"@data T a = X (L b -> L (a -> Char c))",
	)
	isNobodys(t, "@data T a = X (Q b)", "@data T a = X (b -> Q)", "@data T a = X (Q -> b)", "@data T a = X (b -> c)", "@data T a = X (b -> Q -> L)", "@data T a = X (P a b)")
}

// Two that are amiss in two arguments, two constructors, two types: one by one.
func TestOneByOne(t *testing.T) {
	isNobodys(t,
		"@data T a = X Q L",
		"@data T a = X b L",
		"@data T a = X (L b) (Int a)",
		"@data T a = X (L (L Q)) L",
		"@data T a = X a b Q L",
		"@data T a = X Q | Y L",
		"@data T a = X b | Y L",
		"@data T a = X a (L b) | Y L | Z L",
		"@data T a = X Q; data V = Y L",
		"@data T a = X b; data V = Y L",
		"data V = Z; @data T a = X a | Y b; data W = A (Int W)",
		"@data T a = X | Y (a -> a -> b); data V = W L",
	)
	isKind(t,
		"@data T a = X L Q",
		"@data T a = X L b",
		"@data T a = X (Int a) (L b)",
		"@data T a = X (L (L L)) Q",
		"@data T a = X a L Q b",
		"@data T a = X L | Y Q",
		"@data T a = X L | Y b",
		"@data T a = X a (L L) | Y b | Z Q",
		"@data T a = X L; data V = Y Q",
		"@data T a = X L; data V = Y b",
		"data V = Z; @data T a = X a | Y (Int a); data W = A Q",
		"@data T a = X | Y (a -> a -> L); data V = W b",
	)
}

// An error leaves nothing: each name of the row may be had again.
func TestAddAgain(t *testing.T) {
	e := known()
	for _, text := range []string{
		"data T = X; data V = Y Q", "data V = X V | Y | N", "data T = X; data V a = X", "data T = X; data W = Y; data T = Z", "data T a = X a | Y b", "data W = X; data T = W T'", "data V = Y L; data W = Z",
	} {
		if err := e.Add(readDatas(text)...); err == nil {
			t.Error(text)
		}
	}
	if err := e.Add(readDatas("data W = X (V Int) | Y")...); say(err) != "0: a name that is nobody's" {
		t.Error(say(err))
	}
	if err := e.Add(readDatas("data V a = Z a; data W = X (V Int) | Y")...); err != nil {
		t.Error(say(err))
	}
	if err := e.Add(readDatas("data T a b = W (V a) (L b)")...); err != nil {
		t.Error(say(err))
	}
	if want := with(knownText + "; data V a = Z a; data W = X (V Int) | Y; data T a b = W (V a) (L b)"); len(e.Datas()) != 6 || tellPlaceless(e) != tellPlaceless(want) {
		t.Error(tell(e))
	}
	for text, want := range map[string]string{"data A = Z": "0: a name twice", "; data V = A": "2: a name twice", "data A = B (T Int Int) (V (A -> Int)) W Q": "0: a name that is nobody's", "data A = B V": "0: a type with other arguments"} {
		if err := e.Add(readDatas(text)...); say(err) != want {
			t.Errorf("%s: %s; want %s", text, say(err), want)
		}
	}
}

// tellPlaceless is tell of definitions whose places are all 0.
func tellPlaceless(e *cons.Env) string {
	l := e.Datas()
	for i := range l {
		l[i].Pos = 0
	}
	var same cons.Env
	if err := same.Add(l...); err != nil {
		return say(err)
	}
	return tell(&same)
}

// One by one, or all at once: what is there is the same, where each stands behind all that it needs.
func TestRowByRow(t *testing.T) {
	text := knownText + "; data T a = X a (T a) (P a Int); data V = Y (T V) | Z; data W a b c = A; data D = D (W D D V)"
	var e cons.Env
	for _, d := range readDatas(text) {
		if err := e.Add(d); err != nil {
			t.Error(d, say(err))
		}
	}
	if at := with(text); tell(&e) != tell(at) {
		t.Errorf("%s; want %s", tell(&e), tell(at))
	}
}

// Each Env has its own.
func TestEnvsAreApart(t *testing.T) {
	var first, second, third cons.Env
	empty := tell(&third)
	if err := first.Add(readDatas("data T a = X a")...); err != nil {
		t.Error(say(err))
	}
	if err := second.Add(readDatas("data V = X (L Int); data L a = N")...); err != nil {
		t.Error(say(err))
	}
	if err := second.Add(readDatas("data W = Y (T Int)")...); say(err) != "0: a name that is nobody's" {
		t.Error(say(err))
	}
	if err := first.Add(readDatas("data V = Y; data L = N")...); err != nil {
		t.Error(say(err))
	}
	if tellPlaceless(&first) != tellPlaceless(with("data T a = X a; data V = Y; data L = N")) {
		t.Error(tell(&first))
	}
	if tellPlaceless(&second) != tellPlaceless(with("data V = X (L Int); data L a = N")) {
		t.Error(tell(&second))
	}
	if tell(&third) != empty {
		t.Error(tell(&third))
	}
}
