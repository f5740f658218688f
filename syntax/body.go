package syntax

import (
	"horarium/api"
	"horarium/lex"
)

// body reads a BODY.
func (r *reader) body() api.Expr {
	product := r.chain(r.one, "*", "/", "%")
	sum := r.chain(product, "+", "-")
	return r.choice(r.compared(sum))()
}

// chain is what reads operators of one rank, any number of them, between what the next rank's function reads: what stands further left is further in.
func (r *reader) chain(next func() api.Expr, signs ...string) func() api.Expr {
	return func() api.Expr {
		e := next()
		for r.sees(signs...) {
			e = r.operator(r.next(), e, next)
		}
		return e
	}
}

// compared is what reads one < or ==, or none, between what the next rank's function reads.
func (r *reader) compared(next func() api.Expr) func() api.Expr {
	return func() api.Expr {
		e := next()
		if r.sees("<", "==") {
			return r.operator(r.next(), e, next)
		}
		return e
	}
}

// choice is what reads a ? and its two bodies, if there is one, behind what the next rank's function reads.
func (r *reader) choice(next func() api.Expr) func() api.Expr {
	return func() api.Expr {
		e := next()
		if !r.sees("?") {
			return e
		}
		sign := r.next()
		then := r.body()
		r.want(":")
		return r.whole(operation(sign, e, then, r.body()))
	}
}

// operator is the sign's, behind which its second argument is read.
func (r *reader) operator(sign lex.Token, first api.Expr, second func() api.Expr) api.Expr {
	return r.whole(operation(sign, first, second()))
}

func operation(sign lex.Token, args ...api.Expr) api.Expr {
	return api.Expr{Kind: api.EOp, Name: sign.Text, Args: args, At: sign.At}
}

// one reads a ONE.
func (r *reader) one() api.Expr {
	first := r.peek()
	switch {
	case r.take("-"):
		// The 0 that it is taken from is made by the sign, too, and stands there.
		zero := api.Expr{Kind: api.EConst, At: first.At}
		return r.operator(first, zero, r.one)
	case r.take("("):
		e := r.body()
		r.want(")")
		return e
	case r.seesName():
		return api.Expr{Kind: api.EParam, Name: r.name().Text, At: first.At}
	}
	return api.Expr{Kind: api.EConst, N: r.need(r.seesNumber()).N, At: first.At}
}
