package scope_test

import (
	"fmt"
	"strings"
	"testing"

	"paideia/api"
)

// amiss is a piece of a program with one thing amiss, at its @, and when the chapter looks at it.
type amiss struct {
	stage int
	text  string
	err   error
}

// eachAmiss is each thing that may be amiss, by itself; each piece has names that end in its own letter.
func eachAmiss() []amiss {
	return []amiss{
		{1, "data Ta = A1a; @data Ta = A2a", api.ErrTwice},
		{1, "@data Tb vb vb = Ab", api.ErrTwice},
		{1, "@data Tc = Ac | Bc | Ac", api.ErrTwice},
		{1, "data Td = Ad; @data Ud = Ad", api.ErrTwice},
		{1, "@data Te = Known", api.ErrTwice},
		{2, "class Cf a where { }; @class Cf a where { }", api.ErrTwice},
		{2, "@class Cg a where { known :: a }", api.ErrTwice},
		{2, "class Ch a where { mh :: a }; @class Dh a where { mh :: a }", api.ErrTwice},
		{2, "@class Ci a where { mi :: a; mi :: a }", api.ErrTwice},
		{3, "class Cj a where { mj :: a }; @mj = 1", api.ErrTwice},
		{3, "@known = 1", api.ErrTwice},
		{3, "xk = 1; @xk = 2", api.ErrTwice},
		{4, "class Cl a where { ml = 1; @ml = 2 }", api.ErrTwice},
		{4, "class Cm a where { mm = @zm }", api.ErrScope},
		{4, "class Cn a where { mn = @Zn }", api.ErrScope},
		{5, "instance Co To where { mo = 1; @mo = 2 }", api.ErrTwice},
		{5, "instance Cp Tp where { mp = @zp }", api.ErrScope},
		{5, "instance Cq Tq where { mq = @Zq }", api.ErrScope},
		{6, "xr = @zr", api.ErrScope},
		{6, "xs = @Zs", api.ErrScope},
		{6, "xt = let { at = 1; @at = 2 } in at", api.ErrTwice},
		{6, "xu = case 1 of { @Zu -> 1 }", api.ErrScope},
		{6, "xv = case 1 of { @Known av av -> 1 }", api.ErrTwice},
	}
}

// only is a text with its n-th @ alone.
func only(text string, n int) string {
	pieces := strings.Split(text, "@")
	return strings.Join(pieces[:n+1], "") + "@" + strings.Join(pieces[n+1:], "")
}

// Of each two things that are amiss the first in the chapter's order is told, whichever stands first in the text; of those that are looked at together the first in the text.
func TestOrderOfPrograms(t *testing.T) {
	for i, a := range eachAmiss() {
		checkFault(t, a.text, a.err)
		for j, b := range eachAmiss() {
			if i == j {
				continue
			}
			text := a.text + "; " + b.text
			if a.stage <= b.stage {
				checkFault(t, only(text, 0), a.err)
			} else {
				checkFault(t, only(text, 1), b.err)
			}
		}
	}
}

// All that is amiss from any of them on, in one text: in the chapter's order, and with what is looked at later ahead of it.
func TestOrderOfAll(t *testing.T) {
	for i, a := range eachAmiss() {
		var later, beside string
		for _, b := range eachAmiss()[i+1:] {
			text := strings.Replace(b.text, "@", "", 1)
			if b.stage > a.stage {
				later += text + "; "
			} else {
				beside += "; " + text
			}
		}
		checkFault(t, a.text+beside+"; "+later, a.err)
		checkFault(t, later+a.text+beside, a.err)
	}
}

// places are expressions with two places for others, the second looked at behind the first.
func places() []string {
	return []string{
		"%s %s", "known %s %s", "%s known %s", "Known %s 1 %s", "(%s) (1 == %s)",
		"%s + %s", "%s == %s", "%s (\\x -> %s)", "\\x -> %s %s", "\\x y -> x %s (y %s)",
		"let { a = %s; b = %s } in 1", "let { a = 1; b = %s } in %s", "let { a = 1; b = %s; c = b; d = %s } in a", "let { } in %s %s", "let { a = 1 } in \\x -> %s %s",
		"case %s of { _ -> %s }", "case %s of { Known a -> a; b -> %s }", "case 1 of { _ -> %s; a -> %s }", "case 1 of { Known a _ -> %s; True -> 1; _ -> %s }", "case 1 of { Known a -> a; True -> %s; False -> %s; b -> 3 }", "case %s %s of { }",
		"if %s then %s else 1", "if 1 then %s else %s", "if %s then 1 else %s",
	}
}

// inners are expressions with one thing amiss; %d is another number for each.
func inners() []amiss {
	return []amiss{
		{0, "@z%d", api.ErrScope},
		{0, "@Z%d", api.ErrScope},
		{0, "(\\v -> v @z%d)", api.ErrScope},
		{0, "(1 @- %d)", api.ErrScope},
		{0, "(@-)", api.ErrScope},
		{0, "(let { v = %d; @v = 1 } in v)", api.ErrTwice},
		{0, "(let { v = @z%d } in v)", api.ErrScope},
		{0, "(let { v = 1 } in v @z%d)", api.ErrScope},
		{0, "(case @z%d of { })", api.ErrScope},
		{0, "(case 1 of { @Z%d -> 1 })", api.ErrScope},
		{0, "(case 1 of { @Known v v -> %d })", api.ErrTwice},
		{0, "(case 1 of { v -> 1; _ -> @v%d })", api.ErrScope},
	}
}

func (a amiss) numbered(n int) string {
	return strings.ReplaceAll(a.text, "%d", fmt.Sprint(n))
}

// Of two things in one expression the first from the left is told, in each of the three lists.
func TestOrderInExpressions(t *testing.T) {
	for _, place := range places() {
		for _, a := range inners() {
			for _, b := range inners() {
				both := fmt.Sprintf(place, a.numbered(1), b.numbered(2))
				second := fmt.Sprintf(place, "known", b.numbered(2))
				for _, around := range []string{"x = %s", "x = 1; f y = %s; v = w", "class C a where { m :: a; m = %s }; instance C T where { m = w }", "instance C T where { n = 1; m = %s; l = w }; x = w"} {
					checkFault(t, fmt.Sprintf(around, only(both, 0)), a.err)
					checkFault(t, fmt.Sprintf(around, second), b.err)
				}
			}
		}
		isWell(t, "x = "+fmt.Sprintf(place, "known", "known"))
	}
}

// An operator stands ahead of what it is applied to, wherever it is written; a let's names ahead of its definitions, an alternative's constructor and variables ahead of its body.
func TestOrderByTrees(t *testing.T) {
	isNobodys(t, "x = z @- w", "x = Z @* 1", "x = 1 * z @- w", "x = 1 + (z @* w)", "x = z + w @- v")
	isTwice(t, "x = let { a = z; @a = w } in v", "x = case 1 of { @Known a a -> z }")
	isNobodys(t, "x = case @z of { Known a a -> w }", "x = case z @- w of { W -> v }")
	isNobodys(t, "x = case 1 of { Known a -> @z; Known b b -> 1 }", "x = case 1 of { @Z a a -> z }")
	isTwice(t, "x = case 1 of { @Known a a -> 1; Z -> z }")
}
