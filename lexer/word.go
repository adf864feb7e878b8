package lexer

import (
	"strings"

	"paideia/api"
)

// maxDigits keeps each number far within 64 bits.
const maxDigits = 15

// skip is the first place from pos on that is neither blank nor in a remark.
func skip(text string, pos int) int {
	for pos < len(text) {
		switch {
		case blank(text[pos]):
			pos++
		case strings.HasPrefix(text[pos:], "--"):
			pos = lineEnd(text, pos)
		default:
			return pos
		}
	}
	return pos
}

func lineEnd(text string, pos int) int {
	if n := strings.IndexByte(text[pos:], '\n'); n >= 0 {
		return pos + n
	}
	return len(text)
}

// word is the word that begins at pos; false, if none does.
func word(text string, pos int) (api.Token, bool) {
	read := sign
	switch c := text[pos]; {
	case beginsName(c):
		read = name
	case digit(c):
		read = number
	case c == '\'':
		read = letter
	}
	t, ok := read(text[pos:])
	if !ok {
		return api.Token{}, false
	}
	t.Pos = pos
	return t, true
}

func name(s string) (api.Token, bool) {
	w := s[:nameLength(s)]
	kind := nameKind(w)
	return api.Token{Kind: kind, Text: w}, kind != 0
}

// nameKind tells what all of s is as a name: Low, High, Mark; 0: it is none.
func nameKind(s string) int {
	switch n := nameLength(s); {
	case n == 0 || n < len(s) || n > api.MaxName:
		return 0
	case s == "_" || Reserved(s):
		return api.Mark
	case great(s[0]):
		return api.High
	}
	return api.Low
}

// nameLength is not cut at MaxName: a name that is too long is an error, not two names.
func nameLength(s string) int {
	if s == "" || !beginsName(s[0]) {
		return 0
	}
	n := 1
	for n < len(s) && inName(s[n]) {
		n++
	}
	return n
}

func number(s string) (api.Token, bool) {
	n, value := 0, int64(0)
	for n < len(s) && digit(s[n]) {
		value = value*10 + int64(s[n]-'0') // may go round, but then there are too many digits
		n++
	}
	return api.Token{Kind: api.Number, Text: s[:n], N: value}, n <= maxDigits
}

func letter(s string) (api.Token, bool) {
	if len(s) < 3 {
		return api.Token{}, false
	}
	code, end := s[1], 2
	plain := code >= 0x20 && code <= 0x7e && code != '\''
	if code == '\\' {
		code, plain = escaped(s[2])
		end = 3
	}
	if !plain || end >= len(s) || s[end] != '\'' {
		return api.Token{}, false
	}
	return api.Token{Kind: api.Letter, Text: s[:end+1], N: int64(code)}, true
}

// escaped is what c stands for behind a backslash.
func escaped(c byte) (byte, bool) {
	switch c {
	case 'n':
		return '\n', true
	case '\'', '\\':
		return c, true
	}
	return 0, false
}

// sign tries two bytes ahead of one, for the longest word counts.
func sign(s string) (api.Token, bool) {
	for n := min(2, len(s)); n > 0; n-- {
		switch w := s[:n]; {
		case Operator(w):
			return api.Token{Kind: api.Sign, Text: w}, true
		case mark(w):
			return api.Token{Kind: api.Mark, Text: w}, true
		}
	}
	return api.Token{}, false
}

func mark(s string) bool {
	switch s {
	case "(", ")", "{", "}", ",", ";", "=", "->", "=>", "::", "\\", "|":
		return true
	}
	return false
}

func blank(c byte) bool { return c == ' ' || c == '\t' || c == '\n' || c == '\r' }

func digit(c byte) bool { return c >= '0' && c <= '9' }

func great(c byte) bool { return c >= 'A' && c <= 'Z' }

func beginsName(c byte) bool { return c >= 'a' && c <= 'z' || great(c) || c == '_' }

func inName(c byte) bool { return beginsName(c) || digit(c) || c == '\'' }
