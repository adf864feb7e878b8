package parser_test

import (
	"math/rand"
	"slices"
	"strings"
	"testing"

	"paideia/api"
	"paideia/lexer"
)

// The model: the chapter's grammar as rules (a line each: what is made, then of what), gone through without looking ahead, all that may be at once (Earley's way). Where the chapter looks ahead, the words are told apart beforehand: `(op` is a bracket with an operator behind it; `context` stands ahead of one.
const rules = `
Program Decls
Decl data high Lows = Cons Deriving
Decl class Above high low where { Entrys }
Decl instance Above high Of where { Defs }
Decl Entry
Lows
Lows low Lows
Cons Con
Cons Con | Cons
Con high Args
Args
Args Arg Args
Deriving
Deriving deriving high
Deriving deriving ( )
Deriving deriving ( Highs )
Deriving deriving (op never
Highs high
Highs high , Highs
Above
Above context high low =>
Above context ( Supers ) =>
Above context (op never
Supers high low
Supers high low , Supers
Of high
Of ( high Lows )
Of (op never
Entry Name :: Scheme
Entry Def
Def Name Vars = Expr
Name low
Name (op Sign )
Name ( never
Vars
Vars Var Vars
Var low
Var (op Sign )
Sign compare
Sign plus
Sign times
Scheme Type
Scheme context high Arg => Type
Scheme context ( Preds ) => Type
Scheme context (op never
Preds high Arg
Preds high Arg , Preds
Type Applied
Type Applied -> Type
Applied Arg
Applied high Arg Args
Arg low
Arg high
Arg ( Type )
Arg (op never
Expr \ Var Vars -> Expr
Expr let { Entrys } in Expr
Expr case Expr of { Alts }
Expr if Expr then Expr else Expr
Expr Sum
Expr Sum compare Sum
Sum Product
Sum Sum plus Product
Product Application
Product Product times Application
Application Atom
Application Application Atom
Atom low
Atom high
Atom number
Atom letter
Atom ( Expr )
Atom (op Sign )
Alt high Fields -> Expr
Alt Var -> Expr
Alt _ -> Expr
Fields
Fields Var Fields
Fields _ Fields
`

// lists have `;` between, and behind, and none.
const lists = "Decl Entry Def Alt"

type rule struct {
	left  string
	right []string
}

type grammar map[string][]rule

func theGrammar() grammar {
	g := grammar{}
	add := func(line string) {
		if w := strings.Fields(line); len(w) > 0 {
			g[w[0]] = append(g[w[0]], rule{w[0], w[1:]})
		}
	}
	for line := range strings.Lines(rules) {
		add(line)
	}
	for _, x := range strings.Fields(lists) {
		for _, of := range []string{"", x, "; " + x + "s", x + " ; " + x + "s"} {
			add(x + "s " + of)
		}
	}
	return g
}

// class is what the rules say for a word.
func class(w api.Token) string {
	switch w.Kind {
	case api.Low:
		return "low"
	case api.High:
		return "high"
	case api.Number:
		return "number"
	case api.Letter:
		return "letter"
	case api.Sign:
		switch w.Text {
		case "*":
			return "times"
		case "+", "-":
			return "plus"
		}
		return "compare"
	}
	return w.Text
}

// terminal is a class of a word, with its place.
type terminal struct {
	class string
	pos   int
}

// terminals tells the words' classes, with `(op` and `context` told apart.
func terminals(words []api.Token, scheme bool) (l []terminal) {
	text := func(i int) string {
		if i < len(words) {
			return words[i].Text
		}
		return ""
	}
	for i, w := range words {
		c := class(w)
		if c == "(" && i+1 < len(words) && words[i+1].Kind == api.Sign {
			c = "(op"
		}
		if i == 0 && scheme && text(contextEnd(words, i)) == "=>" {
			l = append(l, terminal{"context", w.Pos})
		}
		l = append(l, terminal{c, w.Pos})
		if (c == "::" || c == "class" || c == "instance") && text(contextEnd(words, i+1)) == "=>" {
			l = append(l, terminal{"context", -1})
		}
	}
	return l
}

// contextEnd is behind what would be a context at i, did an arrow follow: a bracket to its end, or a great name and one word or a bracket to its end.
func contextEnd(words []api.Token, i int) int {
	if i < len(words) && words[i].Kind == api.High {
		i++
		if i < len(words) && words[i].Text != "(" {
			return i + 1
		}
	}
	if i >= len(words) || words[i].Text != "(" {
		return len(words)
	}
	for end := i + 1; end <= len(words); end++ {
		opens, shuts := 0, 0
		for _, w := range words[i:end] {
			if w.Text == "(" {
				opens++
			} else if w.Text == ")" {
				shuts++
			}
		}
		if opens == shuts {
			return end
		}
	}
	return len(words)
}

type state struct {
	rule      *rule
	dot, from int
}

type states map[state]bool

// closed adds all that may begin or has ended there.
func (g grammar) closed(sets []states, at int) {
	set := sets[at]
	for size := -1; size != len(set); {
		size = len(set)
		var more []state
		for s := range set {
			if s.dot < len(s.rule.right) {
				for i := range g[s.rule.right[s.dot]] {
					more = append(more, state{&g[s.rule.right[s.dot]][i], 0, at})
				}
				continue
			}
			for b := range sets[s.from] {
				if b.dot < len(b.rule.right) && b.rule.right[b.dot] == s.rule.left {
					more = append(more, state{b.rule, b.dot + 1, b.from})
				}
			}
		}
		for _, s := range more {
			set[s] = true
		}
	}
}

// firstWrong is the place of the first word that can't be there, the length where words lack; -1: all is well.
func (g grammar) firstWrong(start string, l []terminal, length int) int {
	first := rule{"", []string{start}}
	sets := []states{{state{&first, 0, 0}: true}}
	g.closed(sets, 0)
	for i, w := range l {
		next := states{}
		for s := range sets[i] {
			if s.dot < len(s.rule.right) && s.rule.right[s.dot] == w.class {
				next[state{s.rule, s.dot + 1, s.from}] = true
			}
		}
		if len(next) == 0 {
			return w.pos
		}
		sets = append(sets, next)
		g.closed(sets, i+1)
	}
	if !sets[len(l)][state{&first, 1, 0}] {
		return length
	}
	return -1
}

var theModel = theGrammar()

// model is what the model says of a text that has words.
func (f face) model(text string) int {
	words, err := lexer.Split([]byte(text))
	if err != nil {
		panic(text)
	}
	return theModel.firstWrong(f.name, terminals(words, f.name == "Scheme"), len(text))
}

// checkModel asks that the model has the same first wrong word.
func (f face) checkModel(t *testing.T, text string) {
	t.Helper()
	_, err := f.read([]byte(text))
	if pos := f.model(text); !isAt(err, pos, api.ErrParse) {
		t.Errorf("%s of %q: %v; the model: %d", f.name, text, err, pos)
	}
}

// The writer makes texts by the rules, at random; of one seed, so that each run makes the same ones.
type writer struct {
	*rand.Rand
	least map[string]int // how many rules, at least, are within one another
	words []string
}

func newWriter(seed int64) *writer {
	w := &writer{Rand: rand.New(rand.NewSource(seed)), least: map[string]int{}}
	for changed := true; changed; {
		changed = false
		for left, l := range theModel {
			for _, r := range l {
				if n := w.height(r); n > 0 && (w.least[left] == 0 || n < w.least[left]) {
					w.least[left], changed = n, true
				}
			}
		}
	}
	return w
}

// height is 0 for a rule that no text has.
func (w *writer) height(r rule) int {
	n := 0
	for _, x := range r.right {
		if x == "never" || theModel[x] != nil && w.least[x] == 0 {
			return 0
		}
		n = max(n, w.least[x])
	}
	return n + 1
}

func (w *writer) write(what string, deep int) {
	if theModel[what] == nil {
		w.word(what)
		return
	}
	var fit []rule
	for _, r := range theModel[what] {
		if n := w.height(r); n > 0 && n <= max(deep, w.least[what]) {
			fit = append(fit, r)
		}
	}
	for _, x := range fit[w.Intn(len(fit))].right {
		w.write(x, deep-1)
	}
}

func (w *writer) of(text string) string {
	l := strings.Fields(text)
	return l[w.Intn(len(l))]
}

func (w *writer) word(what string) {
	switch what {
	case "low":
		what = w.of("a b c x' _y")
	case "high":
		what = w.of("A B' C")
	case "number":
		what = w.of("0 1 23 999999999999999")
	case "letter":
		what = w.of(`'a' '\n' '\'' '\\' '"' '('`)
	case "times":
		what = "*"
	case "plus":
		what = w.of("+ -")
	case "compare":
		what = w.of("== /= < <= > >=")
	case "(op":
		what = "("
	case "context":
		return
	}
	w.words = append(w.words, what)
}

// start is the rule that a face begins with.
func (w *writer) text(start string, deep int) []string {
	w.words = nil
	w.write(start, deep)
	return slices.Clone(w.words)
}

// spoilt has some words more, less, or others.
func (w *writer) spoilt(l []string) []string {
	all := append(strings.Fields("data class instance where let in case of if then else deriving ( ) ( ) { } , ; ; = -> => :: \\ | _"), operators...)
	all = append(all, "a", "b", "A", "B", "1", "'a'")
	l = slices.Clone(l)
	for range 1 + w.Intn(2) {
		i := w.Intn(len(l) + 1)
		word := all[w.Intn(len(all))]
		switch n := w.Intn(5); {
		case n == 0:
			l = slices.Insert(l, i, word)
		case i == len(l):
			l = l[:w.Intn(len(l)+1)]
		case n == 1:
			l = slices.Delete(l, i, i+1)
		case n == 2:
			l[i] = word
		case n == 3:
			j := w.Intn(len(l))
			l[i], l[j] = l[j], l[i]
		default:
			j := w.Intn(len(l))
			l = slices.Insert(l, i, l[j])
		}
	}
	return l
}

// otherFault says whether pos is that of a word which the rules allow, and a list or a class does not: a signature's name, a class' variable.
func otherFault(text string, pos int) bool {
	words, _ := lexer.Split([]byte(text))
	i := slices.IndexFunc(words, func(w api.Token) bool { return w.Pos == pos })
	is := func(i int, text string) bool { return i >= 0 && i < len(words) && words[i].Text == text }
	return i >= 0 && (is(i+1, "::") || is(i-1, "(") && is(i+1, ")") && is(i+2, "::") || is(i-2, "=>") && words[i].Kind == api.Low)
}

// checkAny holds what is read against the model, whatever the text; it tells whether it is well, and whether the model alone told.
func (f face) checkAny(t *testing.T, text string) (well, alone bool) {
	t.Helper()
	tree, err := f.read([]byte(text))
	pos := f.model(text)
	if a, ok := err.(*api.At); ok && a.Pos != pos {
		if (pos >= 0 && a.Pos >= pos) || a.Err != api.ErrParse || !otherFault(text, a.Pos) {
			t.Errorf("%s of %q: %v; the model: %d", f.name, text, err, pos)
		}
		return false, false
	}
	if pos >= 0 {
		f.checkError(t, text, pos, api.ErrParse)
		return false, true
	}
	if err != nil {
		t.Errorf("%s of %q: %v", f.name, text, err)
		return false, true
	}
	f.checkText(t, text, f.text(tree))
	checkPlaces(t, text, tree)
	return true, true
}

func TestTextsAsTheModel(t *testing.T) {
	for _, f := range faces {
		w := newWriter(4)
		wells, faults, others := 0, 0, 0
		for range 1500 {
			l := w.text(f.name, 4+w.Intn(8))
			if len(l) > 60 {
				continue
			}
			for _, words := range [][]string{l, w.spoilt(l), l[:w.Intn(len(l)+1)]} {
				switch well, alone := f.checkAny(t, strings.Join(words, " ")); {
				case well:
					wells++
				case alone:
					faults++
				default:
					others++
				}
			}
			if t.Failed() {
				return
			}
		}
		if wells < 400 || faults < 400 || others > wells {
			t.Errorf("%s: too few texts: %d, %d, %d", f.name, wells, faults, others)
		}
	}
}

// Words in no order at all.
func TestAnyWords(t *testing.T) {
	w := newWriter(5)
	for range 4000 {
		text := strings.Join(w.spoilt(w.spoilt(w.spoilt(w.spoilt(nil)))), " ")
		for _, f := range faces {
			f.checkAny(t, text)
		}
		if t.Failed() {
			return
		}
	}
}

// Each form with a wrong word at each of its places, and cut there.
func TestEachPlace(t *testing.T) {
	forms := map[string][]string{
		"Program": {"data T a b = C a ( T b ) U | D deriving ( Eq , Ord ) ; ;", "data T = C deriving Eq", "data T = C deriving ( )", "class ( D a , E a ) => C a where { m :: a -> b ; ( + ) x = m ; } ;", "class D a => C a where { }", "class C a where { ( - ) :: a }",
			"instance ( C a , D b ) => C ( T a b ) where { m x = 1 ; ( + ) = 2 }", "instance C a => C T where { }", "instance C ( T ) where { }", "f x ( * ) y = 1 ; f :: ( Eq a , Ord ( T b ) ) => a -> b", "( + ) = 1 ; ( + ) :: Eq T => T"},
		"Expr": {"let { f x = 1 ; ; f :: a -> a ; ( < ) = 2 } in f 1", "case f x of { C a _ ( + ) -> 1 ; x -> 2 ; ( * ) -> 3 ; _ -> 4 ; }", "if a == b then f 1 else g 'a'", "\\ x ( + ) y -> x + y", "a + b * c - f x ( g 1 ) ( + ) C == ( d < e )", "case x of { }"},
		"Type": {"a", "T a ( U b ) V -> ( a -> b ) -> c"}, "Scheme": {"( Eq a , Ord ( T b ) ) => a -> b", "Eq ( T a ) => b", "Eq a => T a", "( T a -> b ) -> c", "T ( a ) -> b"},
	}
	wrong := append(strings.Fields("data class instance where let in case of if then else deriving ( ) { } , ; = -> => :: \\ | _ a A 1 'a'"), operators...)
	for _, f := range faces {
		for _, text := range forms[f.name] {
			l := strings.Fields(text)
			accepts(t, f, text)
			for i := range len(l) + 1 {
				f.checkAny(t, strings.Join(l[:i], " "))
				f.checkAny(t, strings.Join(l[:i], " ")+" ")
				for _, w := range wrong {
					f.checkAny(t, strings.Join(slices.Insert(slices.Clone(l), i, w), " "))
					f.checkAny(t, strings.Join(append(slices.Clone(l[:i]), w), " "))
				}
			}
		}
	}
}
