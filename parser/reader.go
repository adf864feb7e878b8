package parser

import "paideia/api"

// reader goes through the words of a text. Behind its first fault there are no more words for it: so whatever reads on comes to its end, and what it makes is thrown away.
type reader struct {
	words  []api.Token
	next   int // the next one's place among them
	length int // of the text
	deep   int // how many parts that count are around
	fault  error
}

// ahead is the n-th word from the next one on; one of no kind and no text where words lack.
func (r *reader) ahead(n int) api.Token {
	if i := r.next + n; i < len(r.words) {
		return r.words[i]
	}
	return api.Token{Pos: r.length}
}

func (r *reader) word() api.Token { return r.ahead(0) }

func (r *reader) ended() bool { return r.next == len(r.words) }

// is says whether the next word is that one: words of different kinds have different texts.
func (r *reader) is(text string) bool { return r.word().Text == text }

// fail keeps the first fault alone.
func (r *reader) fail(pos int, err error) {
	if r.fault == nil {
		r.fault = &api.At{Pos: pos, Err: err}
	}
	r.next = len(r.words)
}

// wrong tells that the next word can't be there.
func (r *reader) wrong() { r.fail(r.word().Pos, api.ErrParse) }

// skip goes past the next word, if it is that one.
func (r *reader) skip(text string) bool {
	if r.ended() || !r.is(text) {
		return false
	}
	r.next++
	return true
}

// need goes past the next word, which must be that one.
func (r *reader) need(text string) {
	if !r.skip(text) {
		r.wrong()
	}
}

// take is the next word, which must be of that kind.
func (r *reader) take(kind int) api.Token {
	w := r.word()
	if w.Kind != kind {
		r.wrong()
		return api.Token{}
	}
	r.next++
	return w
}

// within reads a part that counts as deep, from its first word to its end.
func within[T any](r *reader, read func(*reader) T) (part T) {
	if r.deep == api.MaxDeep {
		r.fail(r.word().Pos, api.ErrLimit)
		return part
	}
	r.deep++
	part = read(r)
	r.deep--
	return part
}

// inBrackets reads what stands in brackets.
func inBrackets[T any](r *reader, read func(*reader) T) T {
	r.need("(")
	x := read(r)
	r.need(")")
	return x
}

// separated reads one or more, with a mark between.
func separated[T any](r *reader, mark string, read func(*reader) T) []T {
	l := []T{read(r)}
	for r.skip(mark) {
		l = append(l, read(r))
	}
	return l
}

// items reads what stands between `;`, up to the word end (the text's, if it is empty), which it leaves.
func (r *reader) items(end string, item func()) {
	for r.fault == nil && !r.is(end) {
		if r.skip(";") {
			continue
		}
		item()
		if !r.is(end) && !r.is(";") {
			r.wrong()
		}
	}
}

// block reads what stands between `;` in `{ }`.
func (r *reader) block(item func()) {
	r.need("{")
	r.items("}", item)
	r.need("}")
}
