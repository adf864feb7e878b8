// Package lexer: words of a text: see ../shared/doc/01-lexer.md.
package lexer

import (
	"iter"

	"paideia/api"
)

// Split tells the words of a text, or the first error.
func Split(b []byte) ([]api.Token, error) {
	var l []api.Token
	for t, err := range All(b) {
		if err != nil {
			return nil, err
		}
		l = append(l, t)
	}
	return l, nil
}

// All tells the words of a text one by one; an error is the last one.
func All(b []byte) iter.Seq2[api.Token, error] {
	if len(b) > api.MaxText {
		return tooLong
	}
	text := string(b) // a copy: the caller may write into b before it has ranged to the end
	return func(yield func(api.Token, error) bool) {
		for pos := skip(text, 0); pos < len(text); {
			t, ok := word(text, pos)
			if !ok {
				yield(api.Token{}, &api.At{Pos: pos, Err: api.ErrLex})
				return
			}
			if !yield(t, nil) {
				return
			}
			pos = skip(text, pos+len(t.Text))
		}
	}
}

// tooLong is what All tells of a text that has too many bytes.
func tooLong(yield func(api.Token, error) bool) {
	yield(api.Token{}, &api.At{Pos: api.MaxText, Err: api.ErrLimit})
}

// Reserved says whether s is a reserved word.
func Reserved(s string) bool {
	switch s {
	case "data", "class", "instance", "where", "let", "in", "case", "of", "if", "then", "else", "deriving":
		return true
	}
	return false
}

// Operator says whether s is an operator.
func Operator(s string) bool {
	switch s {
	case "==", "/=", "<", "<=", ">", ">=", "+", "-", "*":
		return true
	}
	return false
}

// Low says whether s is a small name.
func Low(s string) bool { return nameKind(s) == api.Low }

// High says whether s is a great name.
func High(s string) bool { return nameKind(s) == api.High }
