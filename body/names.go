package body

import "horarium/api"

// Names is the body's parameters, from the left, each as it stands.
func Names(e api.Expr) []api.Expr {
	g := gatherer{pieces: map[*api.Expr]piece{}}
	g.meet(&e)
	for len(g.open) > 0 {
		g.step()
	}
	return g.names
}

// gatherer goes through a body from the left. What it is in the midst of stands in a list: calls within calls have no room for a very deep body.
type gatherer struct {
	names []api.Expr
	open  []opened
	// pieces has what each expression with arguments gave, so that one that stands in several lists of arguments is gone through once. Till it is gone through that is nothing: one that holds itself has no end, and comes to one so.
	pieces map[*api.Expr]piece
}

// piece is the names from a place to ahead of another one.
type piece struct {
	from, to int
}

// opened is an expression whose arguments are gone through: the next one's place, and how many names there were ahead of the first one.
type opened struct {
	e    *api.Expr
	next int
	from int
}

// meet takes the names of what has no arguments, or was met before, and opens the rest.
func (g *gatherer) meet(e *api.Expr) {
	if e.Kind == api.EParam {
		// What a wrong one has as arguments is the caller's memory, and isn't handed out.
		g.names = append(g.names, api.Expr{Kind: e.Kind, Name: e.Name, N: e.N, D: e.D, At: e.At})
		return
	}
	if len(e.Args) == 0 {
		return
	}
	if gave, met := g.pieces[e]; met {
		g.names = append(g.names, g.names[gave.from:gave.to]...)
		return
	}
	g.pieces[e] = piece{}
	g.open = append(g.open, opened{e: e, from: len(g.names)})
}

// step meets the next argument of what was opened last, or closes that.
func (g *gatherer) step() {
	last := &g.open[len(g.open)-1]
	if last.next < len(last.e.Args) {
		last.next++
		g.meet(&last.e.Args[last.next-1])
		return
	}
	g.pieces[last.e] = piece{from: last.from, to: len(g.names)}
	g.open = g.open[:len(g.open)-1]
}
