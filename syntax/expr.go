package syntax

import "horarium/api"

// expr reads an EXPR.
func (r *reader) expr() api.Expr {
	return r.led(r.followed(r.atom))()
}

// seesExpr is whether an EXPR may begin with what is next.
func (r *reader) seesExpr() bool {
	return r.seesName() || r.seesNumber() || r.sees("-", "tail", "(")
}

// led is what reads fby, :: and tail, any number of them, and behind them what the next rank's function reads.
func (r *reader) led(next func() api.Expr) func() api.Expr {
	var read func() api.Expr
	read = func() api.Expr {
		e := api.Expr{At: r.peek().At}
		switch {
		case r.take("tail"):
			e.Kind = api.ETail
		case r.seesNumber(), r.sees("-"):
			e.N = r.signed()
			e.Kind = api.ECons
			if r.want("fby", "::").Text == "fby" {
				e.Kind = api.EFby
			}
		default:
			return next()
		}
		e.Args = []api.Expr{read()}
		return r.whole(e)
	}
	return read
}

// followed is what reads *^, /^ and ~>, any number of them, behind what the next rank's function reads.
func (r *reader) followed(next func() api.Expr) func() api.Expr {
	return func() api.Expr {
		e := next()
		for r.sees("*^", "/^", "~>") {
			e = r.whole(r.factored(e))
		}
		return e
	}
}

// factored reads a sign and its factors: what they do with the expression.
func (r *reader) factored(source api.Expr) api.Expr {
	sign := r.next()
	e := api.Expr{Args: []api.Expr{source}, At: sign.At}
	switch sign.Text {
	case "*^":
		e.Kind = api.EOver
		e.N = r.number(1, api.MaxFactor)
	case "/^":
		e.Kind = api.EUnder
		e.N = r.number(1, api.MaxFactor)
	case "~>":
		e.Kind = api.EShift
		e.N = r.number(0, api.MaxFactor)
		r.want("/")
		e.D = r.number(1, api.MaxFactor)
	}
	return e
}

// signed reads a number that may have a - ahead.
func (r *reader) signed() int64 {
	if r.take("-") {
		return -r.need(r.seesNumber()).N
	}
	return r.need(r.seesNumber()).N
}

// atom reads an ATOM.
func (r *reader) atom() api.Expr {
	if r.take("(") {
		e := r.expr()
		r.want(")")
		return e
	}
	name := r.name()
	e := api.Expr{Kind: api.EName, Name: name.Text, At: name.At}
	if !r.sees("(") {
		return e
	}
	e.Kind = api.ECall
	r.list(r.seesExpr, func() {
		e.Args = append(e.Args, r.expr())
	})
	return r.whole(e)
}
