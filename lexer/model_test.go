package lexer_test

import (
	"regexp"
	"slices"
	"testing"

	"paideia/api"
	"paideia/lexer"
)

// forms are the words as the chapter draws them, one expression a kind; of several kinds the longest word counts, then the first in order.
var forms = []struct {
	kind int
	form *regexp.Regexp
}{
	{0, regexp.MustCompile("^(?:[ \t\r\n]+|--[^\n]*)")},
	{api.Mark, regexp.MustCompile(`^(?:data|class|instance|where|let|in|case|of|if|then|else|deriving|_|->|=>|::|[(){},;=\\|])`)},
	{api.Low, regexp.MustCompile(`^[a-z_][a-zA-Z0-9_']*`)},
	{api.High, regexp.MustCompile(`^[A-Z][a-zA-Z0-9_']*`)},
	{api.Number, regexp.MustCompile(`^[0-9]+`)},
	{api.Letter, regexp.MustCompile(`^'(?:[ -&(-\[\]-~]|\\[n'\\])'`)},
	{api.Sign, regexp.MustCompile(`^(?:==|/=|<=|<|>=|>|\+|-|\*)`)},
}

// model splits short texts by the forms; the place of the first error, or -1.
func model(text string) (l []api.Token, bad int) {
	for pos := 0; pos < len(text); {
		kind, n := -1, 0
		for _, f := range forms {
			if m := len(f.form.FindString(text[pos:])); m > n {
				kind, n = f.kind, m
			}
			if f.kind == 0 && n > 0 {
				break
			}
		}
		if kind < 0 {
			return l, pos
		}
		if kind > 0 {
			l = append(l, api.Token{Kind: kind, Pos: pos, Text: text[pos : pos+n]})
		}
		pos += n
	}
	return l, -1
}

func checkModel(t *testing.T, text string) {
	want, bad := model(text)
	var got []api.Token
	at := -1
	for x, err := range lexer.All([]byte(text)) {
		if err != nil {
			at = err.(*api.At).Pos
			break
		}
		x.N = 0 // what words are worth is asked elsewhere
		got = append(got, x)
	}
	if at != bad || !slices.Equal(got, want) {
		t.Fatalf("%q: %v, %d; want %v, %d", text, got, at, want, bad)
	}
}

// TestModel asks all short texts of the bytes that stand in words of several kinds.
func TestModel(t *testing.T) {
	alphabet := "-=><:/*\\'_anA1i \n#"
	var extend func(text string, more int)
	extend = func(text string, more int) {
		checkModel(t, text)
		if more == 0 {
			return
		}
		for i := range len(alphabet) {
			extend(text+alphabet[i:i+1], more-1)
		}
	}
	extend("", 4)
}

// TestModelOfReserved asks words around the reserved ones, letter by letter.
func TestModelOfReserved(t *testing.T) {
	for _, w := range reserved {
		for i := range len(w) + 1 {
			for _, between := range []string{"", " ", "_", "'", "A", "1", "--", "\n", "->", "e"} {
				checkModel(t, w[:i]+between+w[i:])
			}
		}
	}
}
