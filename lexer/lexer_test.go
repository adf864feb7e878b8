package lexer_test

import (
	"bytes"
	"fmt"
	"slices"
	"strings"
	"testing"

	"paideia/api"
	"paideia/lexer"
)

var reserved = strings.Fields("data class instance where let in case of if then else deriving")
var operators = strings.Fields("== /= < <= > >= + - *")
var marks = strings.Fields(`( ) { } , ; = -> => :: \ |`)

func low(pos int, text string) api.Token { return api.Token{Kind: api.Low, Pos: pos, Text: text} }

func high(pos int, text string) api.Token { return api.Token{Kind: api.High, Pos: pos, Text: text} }

func sign(pos int, text string) api.Token { return api.Token{Kind: api.Sign, Pos: pos, Text: text} }

func mark(pos int, text string) api.Token { return api.Token{Kind: api.Mark, Pos: pos, Text: text} }

func number(pos int, text string, n int64) api.Token {
	return api.Token{Kind: api.Number, Pos: pos, Text: text, N: n}
}

func letter(pos int, text string, n int64) api.Token {
	return api.Token{Kind: api.Letter, Pos: pos, Text: text, N: n}
}

// isAt holds the error against &api.At{pos, want} itself: a wrapped one, or another's place, is none.
func isAt(err error, pos int, want error) bool {
	a, ok := err.(*api.At)
	return ok && a.Pos == pos && a.Err == want
}

func checkWords(t *testing.T, text string, want ...api.Token) {
	t.Helper()
	l, err := lexer.Split([]byte(text))
	if err != nil || !slices.Equal(l, want) {
		t.Errorf("Split(%q) = %v, %v; want %v", text, l, err, want)
	}
	l, err = ranged(lexer.All([]byte(text)))
	if err != nil || !slices.Equal(l, want) {
		t.Errorf("All(%q): %v, %v; want %v", text, l, err, want)
	}
}

// checkError asks that Split tells the error alone, and All the words ahead of it, then the error.
func checkError(t *testing.T, text string, pos int, want error, ahead ...api.Token) {
	t.Helper()
	l, err := lexer.Split([]byte(text))
	if len(l) > 0 || !isAt(err, pos, want) {
		t.Errorf("Split(%.60q) = %v, %v; want %v around %d", text, l, err, want, pos)
	}
	l, err = ranged(lexer.All([]byte(text)))
	if !slices.Equal(l, ahead) || !isAt(err, pos, want) {
		t.Errorf("All(%.60q): %v, %v; want %v, %v around %d", text, l, err, ahead, want, pos)
	}
}

// ranged panics where an error has a word beside it, or is not the last one.
func ranged(all func(func(api.Token, error) bool)) (l []api.Token, last error) {
	for x, err := range all {
		if last != nil || err != nil && x != (api.Token{}) {
			panic(fmt.Sprint("an error that is not alone, or not the last: ", last, x, err))
		}
		if last = err; err == nil {
			l = append(l, x)
		}
	}
	return l, last
}

func TestNothing(t *testing.T) {
	checkWords(t, "")
	checkWords(t, " \t\n\r \n")
	if l, err := lexer.Split(nil); len(l) > 0 || err != nil {
		t.Error(l, err)
	}
}

func TestBlanks(t *testing.T) {
	checkWords(t, "\ta \r\nb\tc\rd\n", low(1, "a"), low(5, "b"), low(7, "c"), low(9, "d"))
	for _, c := range []string{"\x00", "\x0b", "\x0c", "\x1f", "\x7f", "\u0085", "\u00a0", "\ufeff"} {
		checkError(t, "a"+c+"b", 1, api.ErrLex, low(0, "a"))
	}
}

func TestRemarks(t *testing.T) {
	checkWords(t, "--")
	checkWords(t, "-- a ' \x00 # é '")
	checkWords(t, "-- a\nb", low(5, "b"))
	checkWords(t, "-- a\r\nb", low(6, "b"))
	checkWords(t, "-- a\rb\nc", low(7, "c"))
	checkWords(t, "--\n--\na", low(6, "a"))
	checkWords(t, "a--b", low(0, "a"))
	checkWords(t, "a---b\n-c", low(0, "a"), sign(6, "-"), low(7, "c"))
	checkWords(t, "-->x\n->x", mark(5, "->"), low(7, "x"))
	checkWords(t, "<--x\n<-x", sign(0, "<"), sign(5, "<"), sign(6, "-"), low(7, "x"))
	checkWords(t, "=--\n(--)\n)", mark(0, "="), mark(4, "("), mark(9, ")"))
	checkWords(t, "- -", sign(0, "-"), sign(2, "-"))
	checkWords(t, "'-'--'", letter(0, "'-'", '-'))
	checkError(t, "'--'", 0, api.ErrLex)
	checkError(t, "a -- #\n#", 7, api.ErrLex, low(0, "a"))
}

func TestNames(t *testing.T) {
	checkWords(t, "a Z z' a'b _a __ _' _1 aZ_09' Za_09'",
		low(0, "a"), high(2, "Z"), low(4, "z'"), low(7, "a'b"), low(11, "_a"), low(14, "__"), low(17, "_'"), low(20, "_1"), low(23, "aZ_09'"), high(30, "Za_09'"))
	checkWords(t, "_", mark(0, "_"))
	checkWords(t, "(_)_", mark(0, "("), mark(1, "_"), mark(2, ")"), mark(3, "_"))
	checkWords(t, "f'a' 'a'f", low(0, "f'a'"), letter(5, "'a'", 'a'), low(8, "f"))
	checkWords(t, "Data CASE", high(0, "Data"), high(5, "CASE"))
	checkError(t, "aé", 1, api.ErrLex, low(0, "a"))
	checkError(t, "Éa", 0, api.ErrLex)
}

func TestReservedWords(t *testing.T) {
	for _, w := range reserved {
		checkWords(t, w, mark(0, w))
		checkWords(t, w+" "+w+"("+w, mark(0, w), mark(len(w)+1, w), mark(2*len(w)+1, "("), mark(2*len(w)+2, w))
		for _, more := range []string{"x", "X", "1", "_", "'"} {
			checkWords(t, w+more, low(0, w+more))
		}
		checkWords(t, "_"+w, low(0, "_"+w))
		checkWords(t, "1"+w, number(0, "1", 1), mark(1, w))
	}
	checkWords(t, "classe dat else2", low(0, "classe"), low(7, "dat"), low(11, "else2"))
}

func TestLongNames(t *testing.T) {
	for _, c := range []string{"a", "A", "_"} {
		longest := c + strings.Repeat("x", api.MaxName-2) + "'"
		kind := api.Low
		if c == "A" {
			kind = api.High
		}
		checkWords(t, longest, api.Token{Kind: kind, Text: longest})
		checkWords(t, " "+longest+" b", api.Token{Kind: kind, Pos: 1, Text: longest}, low(api.MaxName+2, "b"))
		for _, more := range []string{"x", "'", "9", "_", strings.Repeat("y", 1000)} {
			checkError(t, longest+more, 0, api.ErrLex)
			checkError(t, "f "+longest+more+" #", 2, api.ErrLex, low(0, "f"))
		}
	}
	checkError(t, strings.Repeat("_", api.MaxName+1), 0, api.ErrLex)
	checkError(t, "data"+strings.Repeat("a", api.MaxName), 0, api.ErrLex)
}

func TestNumbers(t *testing.T) {
	checkWords(t, "0 7 10 007 12ab 1A 1_ 3'a'",
		number(0, "0", 0), number(2, "7", 7), number(4, "10", 10), number(7, "007", 7), number(11, "12", 12), low(13, "ab"), number(16, "1", 1), high(17, "A"), number(19, "1", 1), mark(20, "_"), number(22, "3", 3), letter(23, "'a'", 'a'))
	checkWords(t, "-1", sign(0, "-"), number(1, "1", 1))
	checkWords(t, "1234567890", number(0, "1234567890", 1234567890))
	checkError(t, "1.5", 1, api.ErrLex, number(0, "1", 1))
}

func TestLongNumbers(t *testing.T) {
	nines := strings.Repeat("9", 15)
	zeros := strings.Repeat("0", 15)
	checkWords(t, nines, number(0, nines, 999999999999999))
	checkWords(t, nines+" "+zeros, number(0, nines, 999999999999999), number(16, zeros, 0))
	checkWords(t, nines+"a", number(0, nines, 999999999999999), low(15, "a"))
	checkError(t, nines+"9", 0, api.ErrLex)
	checkError(t, zeros+"0", 0, api.ErrLex)
	checkError(t, "a "+zeros+"1", 2, api.ErrLex, low(0, "a"))
	checkError(t, strings.Repeat("9", 1000), 0, api.ErrLex)
	checkError(t, "18446744073709551617", 0, api.ErrLex)
}

func TestLetters(t *testing.T) {
	for c := range 256 {
		text := "'" + string([]byte{byte(c)}) + "'"
		if c >= 0x20 && c <= 0x7e && c != '\'' && c != '\\' {
			checkWords(t, text, letter(0, text, int64(c)))
			checkWords(t, "x "+text+"y", low(0, "x"), letter(2, text, int64(c)), low(5, "y"))
		} else {
			checkError(t, text, 0, api.ErrLex)
		}
	}
	for c := range 256 {
		text := `'\` + string([]byte{byte(c)}) + "'"
		if code, ok := map[int]int64{'n': 10, '\'': 39, '\\': 92}[c]; ok {
			checkWords(t, text, letter(0, text, code))
			checkWords(t, text+"y", letter(0, text, code), low(4, "y"))
		} else {
			checkError(t, text, 0, api.ErrLex)
		}
	}
}

func TestLettersThatAreNone(t *testing.T) {
	for _, text := range []string{"'", "''", "'''", "''''", "'a", "'ab'", "'a'"[:2], "'\\", "'\\'", "'\\n", "'\\\\", "'\\na'", "'é'", "'\\65'", "'\n'", "'a\n'", "'  '"} {
		checkError(t, text, 0, api.ErrLex)
		checkError(t, "x; "+text+" y", 3, api.ErrLex, low(0, "x"), mark(1, ";"))
	}
	checkError(t, "'a''", 3, api.ErrLex, letter(0, "'a'", 'a'))
	checkWords(t, "'a''b'", letter(0, "'a'", 'a'), letter(3, "'b'", 'b'))
}

func TestSigns(t *testing.T) {
	for _, w := range operators {
		checkWords(t, "x"+w+"y", low(0, "x"), sign(1, w), low(1+len(w), "y"))
		checkWords(t, w, sign(0, w))
	}
	for _, w := range marks {
		checkWords(t, "x"+w+"y", low(0, "x"), mark(1, w), low(1+len(w), "y"))
		checkWords(t, w, mark(0, w))
	}
}

func TestLongestSign(t *testing.T) {
	checkWords(t, "===", sign(0, "=="), mark(2, "="))
	checkWords(t, "===>", sign(0, "=="), mark(2, "=>"))
	checkWords(t, "==>", sign(0, "=="), sign(2, ">"))
	checkWords(t, "=>=", mark(0, "=>"), mark(2, "="))
	checkWords(t, "<=>", sign(0, "<="), sign(2, ">"))
	checkWords(t, ">>=", sign(0, ">"), sign(1, ">="))
	checkWords(t, "/==", sign(0, "/="), mark(2, "="))
	checkWords(t, "->-", mark(0, "->"), sign(2, "-"))
	checkWords(t, "+-*", sign(0, "+"), sign(1, "-"), sign(2, "*"))
	checkWords(t, "||", mark(0, "|"), mark(1, "|"))
	checkError(t, ":::", 2, api.ErrLex, mark(0, "::"))
	checkError(t, ":=", 0, api.ErrLex)
	checkError(t, "//=", 0, api.ErrLex)
}

func TestEachByteAlone(t *testing.T) {
	begins := "abcdefghijklmnopqrstuvwxyzABCDEFGHIJKLMNOPQRSTUVWXYZ_0123456789(){},;=\\|<>+-* \t\r\n"
	for c := range 256 {
		text := string([]byte{byte(c)})
		if !strings.Contains(begins, text) {
			checkError(t, text, 0, api.ErrLex)
		} else if l, err := lexer.Split([]byte(text)); err != nil || len(l) != len(strings.TrimSpace(text)) {
			t.Errorf("%q: %v %v", text, l, err)
		}
	}
}

func TestLongTexts(t *testing.T) {
	full := bytes.Repeat([]byte("a "), api.MaxText/2)
	l, err := lexer.Split(full)
	if len(l) != api.MaxText/2 || err != nil || l[len(l)-1] != low(api.MaxText-2, "a") {
		t.Error(len(l), err)
	}
	checkError(t, string(full)+" ", api.MaxText, api.ErrLimit)
	checkError(t, "#"+string(full), api.MaxText, api.ErrLimit)
	checkError(t, strings.Repeat(" ", 3*api.MaxText), api.MaxText, api.ErrLimit)
	checkWords(t, strings.Repeat("-", api.MaxText))
	checkError(t, strings.Repeat(" ", api.MaxText-1)+"#", api.MaxText-1, api.ErrLex)
	checkWords(t, strings.Repeat(" ", api.MaxText-1)+"Z", high(api.MaxText-1, "Z"))
}

func TestFirstErrorTells(t *testing.T) {
	long := strings.Repeat("a", api.MaxName+1)
	checkError(t, "# "+long, 0, api.ErrLex)
	checkError(t, long+" # 1234567890123456 'ab'", 0, api.ErrLex)
	checkError(t, "a 'ab' #", 2, api.ErrLex, low(0, "a"))
	checkError(t, "1234567890123456 #", 0, api.ErrLex)
}

func TestAllEndedEarly(t *testing.T) {
	for _, text := range []string{"a b c d", "a b c #", "a b 'c", "#"} {
		whole, _ := ranged(lexer.All([]byte(text)))
		for stop := range 6 {
			var l []api.Token
			for x, err := range lexer.All([]byte(text)) {
				if err != nil || len(l) == stop {
					break
				}
				l = append(l, x)
			}
			if !slices.Equal(l, whole[:min(stop, len(whole))]) {
				t.Errorf("%q, ended at %d: %v", text, stop, l)
			}
		}
	}
	for range lexer.All(make([]byte, api.MaxText+1)) {
		break
	}
}

func TestAllRangedAgain(t *testing.T) {
	all := lexer.All([]byte("a (1 'x' #"))
	for range all {
		break
	}
	want := []api.Token{low(0, "a"), mark(2, "("), number(3, "1", 1), letter(5, "'x'", 'x')}
	for range 2 {
		l, err := ranged(all)
		if !slices.Equal(l, want) || !isAt(err, 9, api.ErrLex) {
			t.Fatal(l, err)
		}
		err.(*api.At).Pos = 77 // the caller's own: the next range shows nothing of it
	}
	limit := lexer.All(make([]byte, api.MaxText+1))
	for range 2 {
		_, err := ranged(limit)
		if !isAt(err, api.MaxText, api.ErrLimit) {
			t.Fatal(err)
		}
		err.(*api.At).Pos = 77
	}
	n := 0
	for range all {
		for range all {
			n++
		}
	}
	if n != 25 {
		t.Error(n)
	}
}

func TestMemory(t *testing.T) {
	b := []byte("ab cd ==>")
	all := lexer.All(b[:7])
	l, err := lexer.Split(b[:7])
	if string(b) != "ab cd ==>" {
		t.Errorf("the text was changed: %q", b)
	}
	want := []api.Token{low(0, "ab"), low(3, "cd"), mark(6, "=")}
	clear(b)
	if err != nil || !slices.Equal(l, want) {
		t.Errorf("what Split answered hangs on the text's memory: %v %v", l, err)
	}
	if l, err := ranged(all); err != nil || !slices.Equal(l, want) {
		t.Errorf("what All answered hangs on the text's memory: %v %v", l, err)
	}
	c := []byte("ab cd")
	n := 0
	for x, err := range lexer.All(c) {
		if c[3] = '#'; err != nil || x.Text != []string{"ab", "cd"}[n] {
			t.Error(x, err)
		}
		n++
	}
	if _, err := lexer.Split([]byte("'a'")[:2]); !isAt(err, 0, api.ErrLex) {
		t.Error("what is behind the text's end was read", err)
	}
}

func TestAsking(t *testing.T) {
	type answer struct{ reserved, operator, low, high bool }
	check := func(s string, want answer) {
		t.Helper()
		if got := (answer{lexer.Reserved(s), lexer.Operator(s), lexer.Low(s), lexer.High(s)}); got != want {
			t.Errorf("%q: %v, want %v", s, got, want)
		}
	}
	for _, w := range reserved {
		check(w, answer{reserved: true})
		check(w+"'", answer{low: true})
		check(strings.ToUpper(w), answer{high: true})
		check(w+" ", answer{})
	}
	for _, w := range operators {
		check(w, answer{operator: true})
		check("("+w+")", answer{})
		check(w+" ", answer{})
		check("a"+w, answer{})
	}
	for _, w := range marks {
		check(w, answer{})
	}
	for _, s := range []string{"", "_", "/", ":", "--", "!=", "'", "'a", "1", "1a", "1A", "a b", " a", "a ", "a\n", "A ", "A-b", "a.b", "é", "É", "aé", "Aé", "a\x00", "\xff", "a--b"} {
		check(s, answer{})
	}
	for _, s := range []string{"a", "z", "__", "_'", "_1", "_A", "a'", "aZ09_'", strings.Repeat("a", api.MaxName), strings.Repeat("_", api.MaxName)} {
		check(s, answer{low: true})
	}
	for _, s := range []string{"A", "Z", "A'", "A_", "Az09_'", "Data", strings.Repeat("A", api.MaxName)} {
		check(s, answer{high: true})
	}
	for _, s := range []string{"a", "A", "_"} {
		check(strings.Repeat(s, api.MaxName+1), answer{})
		check(strings.Repeat(s, 100000), answer{})
	}
}
