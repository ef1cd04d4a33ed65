package parse

import (
	"strconv"

	"ballcock/api"
	"ballcock/lex"
)

// reader takes tokens one after the other. The last one marks the end of the text and is never taken.
type reader struct {
	rest []api.Token
}

// next is the token that is taken next.
func (r *reader) next() api.Token {
	return r.rest[0]
}

// fail ends the reading with an error at the next token.
func (r *reader) fail(err api.Errno) {
	panic(failure{api.Fault{Err: err, At: r.next().At}})
}

// begin makes a branch that begins at the next token.
func (r *reader) begin(kind int) *branch {
	return &branch{Node: api.Node{Kind: kind, At: r.next().At}}
}

// take takes the next token and returns its text.
func (r *reader) take() string {
	s := r.next().S
	r.rest = r.rest[1:]
	return s
}

// takes takes the next token if it is this keyword or sign, and tells whether it is.
func (r *reader) takes(s string) bool {
	if r.next().S != s {
		return false
	}
	r.take()
	return true
}

// need takes a keyword or a sign that has to be next.
func (r *reader) need(s string) {
	if !r.takes(s) {
		r.fail(api.ErrParse)
	}
}

// name takes a name, which has to be next.
func (r *reader) name() string {
	if !lex.Name(r.next().S) {
		r.fail(api.ErrParse)
	}
	return r.take()
}

// number takes a number, which has to be next and not below the least one.
func (r *reader) number(least int64) int64 {
	// Numbers are short enough, and nothing else has the form of one.
	n, err := strconv.ParseInt(r.next().S, 10, 64)
	if err != nil || n < least {
		r.fail(api.ErrParse)
	}
	r.take()
	return n
}
