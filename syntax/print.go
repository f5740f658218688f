package syntax

import (
	"strconv"
	"strings"

	"horarium/api"
)

// writer writes a program's text. It has room for as many expressions as a text that may be read can make: a byte makes two at most (a - in a body). What has more may be without an end.
type writer struct {
	text strings.Builder
	room int
}

// Print is the text that writes the program: a line each for its nodes, inputs, flows and outputs.
func Print(p api.Program) string {
	w := &writer{room: 2 * api.MaxText}
	for _, n := range p.Nodes {
		w.put("node ", n.Name, "(", strings.Join(n.Params, ", "), ") budget ", digits(n.Budget), " { ")
		w.expr(n.Body)
		w.put(" }\n")
	}
	for _, i := range p.Inputs {
		w.put("input ", i.Name, " period ", digits(i.Period), " phase ", digits(i.Phase), ";\n")
	}
	for _, f := range p.Flows {
		w.put("flow ", f.Name, " = ")
		w.expr(f.E)
		w.put(";\n")
	}
	for _, o := range p.Outputs {
		w.put("output ", o.Name, " = ", o.Flow, " deadline ", digits(o.Deadline), ";\n")
	}
	return w.text.String()
}

func digits(n int64) string {
	return strconv.FormatInt(n, 10)
}

func (w *writer) put(pieces ...string) {
	for _, s := range pieces {
		w.text.WriteString(s)
	}
}

// expr writes an EXPR, or a BODY, as it stands by itself.
func (w *writer) expr(e api.Expr) {
	if w.room == 0 {
		return
	}
	w.room--
	switch e.Kind {
	case api.EName, api.EParam:
		w.put(e.Name)
	case api.EConst:
		w.put(digits(e.N))
	case api.ECall:
		w.put(e.Name, "(")
		w.args(e.Args)
		w.put(")")
	case api.EFby:
		w.put(digits(e.N), " fby ")
		w.expr(arg(e, 0))
	case api.ECons:
		w.put(digits(e.N), " :: ")
		w.expr(arg(e, 0))
	case api.ETail:
		w.put("tail ")
		w.expr(arg(e, 0))
	case api.EOver:
		w.source(arg(e, 0))
		w.put(" *^ ", digits(e.N))
	case api.EUnder:
		w.source(arg(e, 0))
		w.put(" /^ ", digits(e.N))
	case api.EShift:
		w.source(arg(e, 0))
		w.put(" ~> ", digits(e.N), "/", digits(e.D))
	case api.EOp:
		w.operation(e)
	}
}

// arg is the expression's i-th argument; one of no kind, if it isn't there.
func arg(e api.Expr, i int) api.Expr {
	if i >= len(e.Args) {
		return api.Expr{}
	}
	return e.Args[i]
}

func (w *writer) args(l []api.Expr) {
	for i := 0; i < len(l) && w.room > 0; i++ {
		if i > 0 {
			w.put(", ")
		}
		w.expr(l[i])
	}
}

// source writes what stands ahead of *^, /^ or ~>.
func (w *writer) source(e api.Expr) {
	w.within(e, e.Kind == api.EFby || e.Kind == api.ECons || e.Kind == api.ETail)
}

// operation writes a body's operator and its arguments.
func (w *writer) operation(e api.Expr) {
	w.operand(arg(e, 0))
	w.put(" ", e.Name, " ")
	w.operand(arg(e, 1))
	if e.Name == "?" {
		w.put(" : ")
		w.operand(arg(e, 2))
	}
}

// operand writes what stands in an operator of a body.
func (w *writer) operand(e api.Expr) {
	w.within(e, e.Kind == api.EOp)
}

func (w *writer) within(e api.Expr, brackets bool) {
	if !brackets {
		w.expr(e)
		return
	}
	w.put("(")
	w.expr(e)
	w.put(")")
}
