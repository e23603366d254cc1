package parse

import (
	"slices"

	"gradus/api"
)

// reader goes through tokens. The last one is the end's, and is never passed.
type reader struct {
	tokens []api.Token
	at     int
}

func (r *reader) peek() api.Token {
	return r.tokens[r.at]
}

// pass goes on behind a token that is not the end's.
func (r *reader) pass() api.Token {
	token := r.peek()
	r.at++
	return token
}

// which is the index of the word or sign that comes next among those told; below 0 if it is none of them.
func (r *reader) which(texts ...string) int {
	token := r.peek()
	// A string may say what a word or a sign does.
	if token.Kind != api.TokWord && token.Kind != api.TokSign {
		return -1
	}
	return slices.Index(texts, token.Text)
}

func (r *reader) is(texts ...string) bool {
	return r.which(texts...) >= 0
}

// take passes the word or sign, if it comes next.
func (r *reader) take(text string) bool {
	if !r.is(text) {
		return false
	}
	r.pass()
	return true
}

func (r *reader) must(text string) api.Token {
	if !r.is(text) {
		panic(r.wrong(api.ErrToken))
	}
	return r.pass()
}

// goesOn passes one of two, and tells whether it was the first.
func (r *reader) goesOn(first, second string) bool {
	if r.take(first) {
		return true
	}
	r.must(second)
	return false
}

func (r *reader) name() string {
	if r.peek().Kind != api.TokName {
		panic(r.wrong(api.ErrToken))
	}
	return r.pass().Text
}

func (r *reader) end() {
	if r.peek().Kind != api.TokEnd {
		panic(r.wrong(api.ErrToken))
	}
}

// beginsField tells whether a field of a record comes next, which an expression may begin like.
func (r *reader) beginsField() bool {
	if r.peek().Kind != api.TokName {
		return false
	}
	behind := reader{tokens: r.tokens, at: r.at + 1}
	return behind.is(":")
}

// wrong is the error at the token that comes next.
func (r *reader) wrong(e api.Errno) api.Diag {
	token := r.peek()
	return api.Diag{Line: token.Line, Col: token.Col, E: e}
}
