package parser_test

import (
	"math/rand"
	"slices"
	"strings"
	"testing"

	"paideia/api"
)

func TestAtoms(t *testing.T) {
	exprs.checkTree(t, " x'", evar(1, "x'"))
	exprs.checkTree(t, "_a", evar(0, "_a"))
	exprs.checkTree(t, " C", econ(1, "C"))
	exprs.checkTree(t, "007", number(0, 7))
	exprs.checkTree(t, "999999999999999", number(0, 999999999999999))
	exprs.checkTree(t, " 'a'", char(1, 'a'))
	exprs.checkTree(t, `'\n'`, char(0, '\n'))
	exprs.checkTree(t, `'\''`, char(0, '\''))
	exprs.checkTree(t, `'('`, char(0, '('))
	exprs.checkTree(t, `f '(' ')'`, app(0, app(0, evar(0, "f"), char(2, '(')), char(6, ')')))
	for _, op := range operators {
		exprs.checkTree(t, "("+op+")", evar(1, op))
		exprs.checkTree(t, " ( "+op+" ) ", evar(3, op))
	}
	exprs.checkTree(t, "((x))", evar(2, "x"))
	exprs.checkTree(t, "((+))", evar(2, "+"))
}

func TestApplications(t *testing.T) {
	exprs.checkTree(t, "f x", app(0, evar(0, "f"), evar(2, "x")))
	exprs.checkTree(t, " f x y", app(1, app(1, evar(1, "f"), evar(3, "x")), evar(5, "y")))
	exprs.checkTree(t, "f (g x)", app(0, evar(0, "f"), app(3, evar(3, "g"), evar(5, "x"))))
	exprs.checkTree(t, " (f x) y", app(2, app(2, evar(2, "f"), evar(4, "x")), evar(7, "y")))
	exprs.checkTree(t, "(a + b) c", app(3, app(3, app(3, evar(3, "+"), evar(1, "a")), evar(5, "b")), evar(8, "c")))
	exprs.checkTree(t, " (+) a", app(2, evar(2, "+"), evar(5, "a")))
	exprs.checkTree(t, "f (+) C", app(0, app(0, evar(0, "f"), evar(3, "+")), econ(6, "C")))
	exprs.checkTree(t, " (\\x -> x) 1", app(2, lam(2, "x", evar(8, "x")), number(11, 1)))
	exprs.checkTree(t, "1 'a'", app(0, number(0, 1), char(2, 'a')))
	exprs.checkText(t, "f(x)(y)1C 'a'(*)", "((((((f x) y) 1) C) 'a') (*))")
}

func TestOperators(t *testing.T) {
	for _, op := range operators {
		exprs.checkTree(t, "a "+op+" b", app(2, app(2, evar(2, op), evar(0, "a")), evar(3+len(op), "b")))
		exprs.checkText(t, "f a"+op+"g b", "((("+op+") (f a)) (g b))")
	}
	exprs.checkTree(t, "a+b+c", app(3, app(3, evar(3, "+"), app(1, app(1, evar(1, "+"), evar(0, "a")), evar(2, "b"))), evar(4, "c")))
	exprs.checkText(t, "a - b + c", "(((+) (((-) a) b)) c)")
	exprs.checkText(t, "a + b - c", "(((-) (((+) a) b)) c)")
	exprs.checkText(t, "a * b * c", "(((*) (((*) a) b)) c)")
	exprs.checkText(t, "a + b * c", "(((+) a) (((*) b) c))")
	exprs.checkText(t, "a * b + c", "(((+) (((*) a) b)) c)")
	exprs.checkText(t, "a * (b + c)", "(((*) a) (((+) b) c))")
	exprs.checkText(t, "a - (b - c)", "(((-) a) (((-) b) c))")
	exprs.checkText(t, "a + b <= c * d", "(((<=) (((+) a) b)) (((*) c) d))")
	exprs.checkText(t, "(a < b) == c", "(((==) (((<) a) b)) c)")
	exprs.checkText(t, "(a == b) == (c == d)", "(((==) (((==) a) b)) (((==) c) d))")
	exprs.checkText(t, "(+) + (+)", "(((+) (+)) (+))")
}

// One of the six others stands once.
func TestComparedOnce(t *testing.T) {
	six := operators[:6]
	for _, one := range six {
		for _, other := range six {
			head := "a " + one + " b "
			exprs.checkError(t, head+other+" c", len(head), api.ErrParse)
			head = "a " + one + " b + c * d "
			exprs.checkError(t, head+other+" c", len(head), api.ErrParse)
			exprs.checkText(t, "(a "+one+" b) "+other+" c", "((("+other+") ((("+one+") a) b)) c)")
			exprs.checkText(t, "a "+one+" (b "+other+" c)", "((("+one+") a) ((("+other+") b) c))")
		}
	}
}

// modelOperation looks for the operator that binds least, the last such, and puts brackets around what is on its sides.
func modelOperation(words []string) string {
	if len(words) == 1 {
		return words[0]
	}
	for _, ops := range []string{"== /= < <= > >=", "+ -", "*"} {
		for i, w := range slices.Backward(words) {
			if slices.Contains(strings.Fields(ops), w) {
				return "(((" + w + ") " + modelOperation(words[:i]) + ") " + modelOperation(words[i+1:]) + ")"
			}
		}
	}
	last := len(words) - 1
	return "(" + modelOperation(words[:last]) + " " + words[last] + ")"
}

func TestOperatorsAsTheModel(t *testing.T) {
	d := rand.New(rand.NewSource(3))
	for range 3000 {
		words := []string{"a"}
		compared := false
		for range d.Intn(12) {
			op := operators[d.Intn(len(operators))]
			if strings.Contains("+-*", op) || !compared {
				compared = compared || !strings.Contains("+-*", op)
				words = append(words, op)
			}
			words = append(words, string(rune('a'+d.Intn(26))))
		}
		exprs.checkText(t, strings.Join(words, " "), modelOperation(words))
		if t.Failed() {
			return
		}
	}
}

func TestLambdas(t *testing.T) {
	exprs.checkTree(t, " \\x -> y", lam(1, "x", evar(7, "y")))
	exprs.checkTree(t, " \\x y z -> x", lam(1, "x", lam(1, "y", lam(1, "z", evar(11, "x")))))
	exprs.checkTree(t, "\\x -> \\x -> x", lam(0, "x", lam(6, "x", evar(12, "x"))))
	exprs.checkTree(t, "\\(+) x -> x", lam(0, "+", lam(0, "x", evar(10, "x"))))
	exprs.checkTree(t, "\\x(+)(==)y->x", lam(0, "x", lam(0, "+", lam(0, "==", lam(0, "y", evar(12, "x"))))))
	exprs.checkText(t, "\\x -> f x + 1 == 2", "(\\x -> (((==) (((+) (f x)) 1)) 2))")
}

func TestLets(t *testing.T) {
	exprs.checkTree(t, " let { } in x", let(1, evar(12, "x")))
	exprs.checkTree(t, "let{;;}in x", let(0, evar(10, "x")))
	exprs.checkTree(t, "let { x = y } in x", let(0, evar(17, "x"), bind(6, "x", evar(10, "y"))))
	exprs.checkTree(t, "let { ; x = y; ; z = 1; } in x", let(0, evar(29, "x"), bind(8, "x", evar(12, "y")), bind(17, "z", number(21, 1))))
	exprs.checkTree(t, "let { f x y = x; (+) z = f } in f",
		let(0, evar(32, "f"), bind(6, "f", lam(6, "x", lam(6, "y", evar(14, "x")))), bind(18, "+", lam(18, "z", evar(25, "f")))))
	exprs.checkTree(t, "let { (*) = (+); f (+) = 1 } in f",
		let(0, evar(32, "f"), bind(7, "*", evar(13, "+")), bind(17, "f", lam(17, "+", number(25, 1)))))
	exprs.checkText(t, "let { x = let { y = 1; } in y; z = 2 } in let { } in x", "(let { x = (let { y = 1 } in y); z = 2 } in (let { } in x))")
	exprs.checkText(t, "let { x = 1; x = 2 } in x == 1", "(let { x = 1; x = 2 } in (((==) x) 1))")
}

func TestCases(t *testing.T) {
	exprs.checkTree(t, " case x of { }", cases(1, evar(6, "x")))
	exprs.checkTree(t, "case x of{;}", cases(0, evar(5, "x")))
	exprs.checkTree(t, "case x of { C -> 1 }", cases(0, evar(5, "x"), alt(12, "C", number(17, 1))))
	exprs.checkTree(t, "case x of { ;C y _ _ z -> y;; x -> 1; _ -> 2; }", cases(0, evar(5, "x"),
		alt(13, "C", evar(26, "y"), "y", "_", "_", "z"), alt(30, "", number(35, 1), "x"), alt(38, "", number(43, 2))))
	exprs.checkTree(t, "case x of { C (+) _ (<) -> 1; (*) -> 2 }", cases(0, evar(5, "x"),
		alt(12, "C", number(27, 1), "+", "_", "<"), alt(31, "", number(37, 2), "*")))
	exprs.checkTree(t, "case x of { C x x -> 1; _a -> 2 }", cases(0, evar(5, "x"), alt(12, "C", number(21, 1), "x", "x"), alt(24, "", number(30, 2), "_a")))
	exprs.checkText(t, "case case x of { } of { _ -> \\x -> x; y -> 1 + 2 }", "(case (case x of { }) of { _ -> (\\x -> x); y -> (((+) 1) 2) })")
	exprs.checkText(t, "case \\x -> x of { }", "(case (\\x -> x) of { })")
	exprs.checkText(t, "case a < b of { True -> case c of { True -> 1 }; False -> 2 }", "(case (((<) a) b) of { True -> (case c of { True -> 1 }); False -> 2 })")
}

func TestIfs(t *testing.T) {
	exprs.checkTree(t, " if a then b else c", cases(1, evar(4, "a"), alt(1, "True", evar(11, "b")), alt(1, "False", evar(18, "c"))))
	exprs.checkText(t, "if a == b then \\x -> x else c + 1 < 2", "(case (((==) a) b) of { True -> (\\x -> x); False -> (((<) (((+) c) 1)) 2) })")
	exprs.checkText(t, "if if a then b else c then if d then e else f else if g then h else i",
		"(case (case a of { True -> b; False -> c }) of { True -> (case d of { True -> e; False -> f }); False -> (case g of { True -> h; False -> i }) })")
}

func TestWrongExprs(t *testing.T) {
	for _, x := range []struct {
		text string
		pos  int
	}{
		{"x )", 2}, {"x y =", 4}, {")", 0}, {"x ;", 2}, {"x,", 1}, {"x _", 2}, {"_", 0}, {"x :: a", 2}, {"x -> y", 2}, {"x where", 2}, {"data", 0}, {"x | y", 2}, {"x y in", 4},
		{"+", 0}, {"+ x", 0}, {"x +", 3}, {"x + + y", 4}, {"x * - y", 4}, {"- 3", 0}, {"x -", 3}, {"x ==", 4}, {"x == == y", 5}, {"a < b < c", 6}, {"a + b == c * d /= e", 15}, {"x + )", 4},
		{"x + \\y -> y", 4}, {"x * let { } in 1", 4}, {"x == case x of { }", 5}, {"x - if a then b else c", 4}, {"f \\x -> x", 2}, {"f let { } in 1", 2}, {"f case x of { }", 2}, {"f if a then b else c", 2}, {"f (x) \\y -> y", 6},
		{"()", 1}, {"(", 1}, {"(x", 2}, {"(x y", 4}, {"(x;y)", 2}, {"(x, y)", 2}, {"((x)", 4}, {"(x))", 3}, {"( x }", 4},
		{"(+", 2}, {"(+ 1)", 3}, {"(+ +)", 3}, {"(- 3)", 3}, {"(== x)", 4}, {"(1 +)", 4}, {"(x + )", 5}, {"(*", 2}, {"(+(", 2},
		{"\\", 1}, {"\\ -> 1", 2}, {"\\1 -> 1", 1}, {"\\_ -> 1", 1}, {"\\C -> 1", 1}, {"\\x", 2}, {"\\x _ -> 1", 3}, {"\\x C -> 1", 3}, {"\\x = 1", 3}, {"\\x -> ", 6}, {"\\x -> )", 6}, {"\\(x) -> 1", 1}, {"\\x (y) -> 1", 3}, {"\\( -> 1", 1}, {"\\(+ -> 1", 4}, {"\\(+", 3}, {"\\x => 1", 3}, {"\\\\x -> 1", 1},
		{"let", 3}, {"let x = 1 in x", 4}, {"let {", 5}, {"let { x", 7}, {"let { x }", 8}, {"let { x =", 9}, {"let { x = }", 10}, {"let { x = 1", 11}, {"let { x = 1 in 1", 12}, {"let { x = 1 y = 2 } in 1", 14}, {"let { x = 1 }", 13}, {"let { x = 1 } x", 14}, {"let { x = 1 } in", 16}, {"let { x = 1 } in }", 17}, {"let { C = 1 } in 1", 6}, {"let { _ = 1 } in 1", 6}, {"let { 1 = 1 } in 1", 6}, {"let { x _ = 1 } in 1", 8}, {"let { x C = 1 } in 1", 8}, {"let { x (y) = 1 } in 1", 8}, {"let { (x) = 1 } in 1", 7}, {"let { ((+)) = 1 } in 1", 7}, {"let { (+ = 1 } in 1", 9}, {"let { + = 1 } in 1", 6}, {"let { x + y = 1 } in 1", 8}, {"let { x y :: a; x = 1 } in 1", 10}, {"let { data T = T } in 1", 6}, {"let { , } in 1", 6}, {"let { x = 1, } in 1", 11},
		{"case", 4}, {"case x", 6}, {"case x { }", 7}, {"case of { }", 5}, {"case x of", 9}, {"case x of }", 10}, {"case x of {", 11}, {"case x of { C", 13}, {"case x of { C }", 14}, {"case x of { C -> }", 17}, {"case x of { C -> 1", 18}, {"case x of { C -> 1 D -> 2 }", 21}, {"case x of { C = 1 }", 14}, {"case x of { 1 -> 1 }", 12}, {"case x of { 'a' -> 1 }", 12}, {"case x of { (C) -> 1 }", 12}, {"case x of { (x) -> 1 }", 12}, {"case x of { C 1 -> 1 }", 14}, {"case x of { C D -> 1 }", 14}, {"case x of { C (x) -> 1 }", 14}, {"case x of { C _ (D) -> 1 }", 16}, {"case x of { C (+ -> 1 }", 17}, {"case x of { x y -> 1 }", 14}, {"case x of { _ y -> 1 }", 14}, {"case x of { x _ -> 1 }", 14}, {"case x of { (+) y -> 1 }", 16}, {"case x of { -> 1 }", 12}, {"case x of { _ -> 1 } y", 21}, {"case x of { } + 1", 14}, {"case x of { _ -> 1, y -> 2 }", 18}, {"case x of { C x -> let { } in 1", 31},
		{"if", 2}, {"if a", 4}, {"if a b", 6}, {"if then", 3}, {"if a else b", 5}, {"if a then", 9}, {"if a then b", 11}, {"if a then b c", 13}, {"if a then else", 10}, {"if a then b else", 16}, {"if a then b else c else", 19}, {"if a then b else )", 17}, {"if a then b; else c", 11},
	} {
		exprs.checkError(t, x.text, x.pos, api.ErrParse)
		if lacks := x.pos == len(x.text); lacks {
			exprs.checkError(t, x.text+" -- x\n ", x.pos+7, api.ErrParse)
		}
		exprs.checkModel(t, x.text)
	}
}
