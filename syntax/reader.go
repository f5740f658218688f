package syntax

import (
	"slices"

	"horarium/api"
	"horarium/lex"
)

// The kinds of tokens that are told by more than their text.
const (
	kindName   = 1
	kindNumber = 2
)

// reader goes through the tokens from the left.
type reader struct {
	tokens []lex.Token // those that aren't read yet
	words  []string    // what no name may be
	end    int         // the text's length
	at     int
	err    api.Errno
}

// fail tells of the first error only. Nothing is left to be read behind it, so that all that reads comes to its end.
func (r *reader) fail(at int, err api.Errno) {
	if r.err == api.OK {
		r.at, r.err = at, err
	}
	r.tokens = nil
}

// peek is the token that is read next; at the end one of no kind and no text.
func (r *reader) peek() lex.Token {
	if len(r.tokens) == 0 {
		return lex.Token{At: r.end}
	}
	return r.tokens[0]
}

func (r *reader) next() lex.Token {
	t := r.peek()
	if len(r.tokens) > 0 {
		r.tokens = r.tokens[1:]
	}
	return t
}

// sees is whether one of these signs or words is next.
func (r *reader) sees(texts ...string) bool {
	return slices.Contains(texts, r.peek().Text)
}

func (r *reader) seesName() bool {
	t := r.peek()
	return t.Kind == kindName && !slices.Contains(r.words, t.Text)
}

func (r *reader) seesNumber() bool {
	return r.peek().Kind == kindNumber
}

// take reads the sign or word, if it is next.
func (r *reader) take(text string) bool {
	if !r.sees(text) {
		return false
	}
	r.next()
	return true
}

// need reads the next token, which has to be what was asked of it.
func (r *reader) need(fits bool) lex.Token {
	if !fits {
		r.fail(r.peek().At, api.ErrSyntax)
	}
	return r.next()
}

// want reads a token that has to be one of these signs or words.
func (r *reader) want(texts ...string) lex.Token {
	return r.need(r.sees(texts...))
}

func (r *reader) name() lex.Token {
	return r.need(r.seesName())
}

func (r *reader) number(least, most int64) int64 {
	t := r.need(r.seesNumber())
	if t.N < least || t.N > most {
		r.fail(t.At, api.ErrRange)
	}
	return t.N
}

// list reads, in brackets and with commas between, 1 to MaxParams of what one reads.
func (r *reader) list(begins func() bool, one func()) {
	r.want("(")
	for many := 0; many == 0 || r.take(","); many++ {
		// What can't begin another one isn't one too many, but no text of the language.
		if many == api.MaxParams && begins() {
			r.fail(r.peek().At, api.ErrLimit)
		}
		one()
	}
	r.want(")")
}

// whole is the expression, when all of it is read.
func (r *reader) whole(e api.Expr) api.Expr {
	// Behind a fault nothing is whole, and what is left unfinished may be so deep that asking each time takes long.
	if r.err == api.OK && Depth(e) > api.MaxDepth {
		r.fail(e.At, api.ErrDepth)
	}
	return e
}
