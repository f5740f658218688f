package syntax_test

import (
	"strings"
	"testing"

	"horarium/api"
	"horarium/syntax"
)

// printsAs asks how a text is written once it is read.
func printsAs(t *testing.T, s, want string) {
	t.Helper()
	if got := syntax.Print(read(t, s)); got != want {
		t.Errorf("%q is written\n%q\nshould be\n%q", s, got, want)
	}
	if got := syntax.Print(read(t, want)); got != want {
		t.Errorf("%q is written\n%q", want, got)
	}
}

// P4.2: nodes, inputs, flows, outputs, a line each, always with phase.
func TestPrintDeclarations(t *testing.T) {
	printsAs(t, "", "")
	printsAs(t, "node n(a)budget 02{1}", "node n(a) budget 2 { 1 }\n")
	printsAs(t, "node n(a,b , c_1)budget 1000{ c_1 }", "node n(a, b, c_1) budget 1000 { c_1 }\n")
	printsAs(t, "input i period 10;", "input i period 10 phase 0;\n")
	printsAs(t, "input i\nperiod 10\nphase 7 ;", "input i period 10 phase 7;\n")
	printsAs(t, "flow f=x;", "flow f = x;\n")
	printsAs(t, "output o=f deadline 1;", "output o = f deadline 1;\n")
	printsAs(t, "output p = f deadline 2; flow g = y; input y period 2; node m(a) budget 1 { 1 } output o = f deadline 1; flow f = x; input x period 1; node n(a) budget 1 { 2 }",
		"node m(a) budget 1 { 1 }\nnode n(a) budget 1 { 2 }\ninput y period 2 phase 0;\ninput x period 1 phase 0;\nflow g = y;\nflow f = x;\noutput p = f deadline 2;\noutput o = f deadline 1;\n")
}

// P4.2: an EXPR has brackets only around fby, :: and tail ahead of *^, /^, ~>.
func TestPrintExprs(t *testing.T) {
	for s, want := range map[string]string{
		"((x))":                     "x",
		"n ( x,(y) )":               "n(x, y)",
		"x*^2/^3~>1/2":              "x *^ 2 /^ 3 ~> 1/2",
		"((x*^2)/^3)~> 0 / 100":     "x *^ 2 /^ 3 ~> 0/100",
		"3fby(x*^2)":                "3 fby x *^ 2",
		"(3fby x)*^2":               "(3 fby x) *^ 2",
		"(-3::x)/^2":                "(-3 :: x) /^ 2",
		"(tail x)~>1/2":             "(tail x) ~> 1/2",
		"((tail x)~>1/2)~>3/4":      "(tail x) ~> 1/2 ~> 3/4",
		"- 3 fby(-0::(tail(x)))":    "-3 fby 0 :: tail x",
		"tail(n(x))":                "tail n(x)",
		"(n(x))*^2":                 "n(x) *^ 2",
		"n((3 fby x),(tail y))":     "n(3 fby x, tail y)",
		"tail((tail x)*^2)":         "tail (tail x) *^ 2",
		"(1 fby(2::x)*^3)/^4":       "(1 fby (2 :: x) *^ 3) /^ 4",
		"n(m(k(x)),(x)*^1)":         "n(m(k(x)), x *^ 1)",
		"3 fby n(x*^2,(tail y)/^3)": "3 fby n(x *^ 2, (tail y) /^ 3)",
	} {
		printsAs(t, "flow f = "+s+";", "flow f = "+want+";\n")
	}
}

// P4.2: a BODY has brackets around each operator that stands in another one.
func TestPrintBodies(t *testing.T) {
	for s, want := range map[string]string{
		"(a)":               "a",
		"007":               "7",
		"a+b":               "a + b",
		"(a*b)":             "a * b",
		"-a":                "0 - a",
		"--1":               "0 - (0 - 1)",
		"a - -1":            "a - (0 - 1)",
		"a+b+1":             "(a + b) + 1",
		"a+(b+1)":           "a + (b + 1)",
		"a*b/1%2":           "((a * b) / 1) % 2",
		"a+b*1":             "a + (b * 1)",
		"a+1<b%2":           "(a + 1) < (b % 2)",
		"a==(b<1)":          "a == (b < 1)",
		"a?1:b":             "a ? 1 : b",
		"a<b?a-1:-b":        "(a < b) ? (a - 1) : (0 - b)",
		"a?b:1?2:3":         "a ? b : (1 ? 2 : 3)",
		"a?b?1:2:3":         "a ? (b ? 1 : 2) : 3",
		"((a?b:1))?(2):(3)": "(a ? b : 1) ? 2 : 3",
		"1+(a?b:2)":         "1 + (a ? b : 2)",
	} {
		printsAs(t, "node n(a, b) budget 1 { "+s+" }", "node n(a, b) budget 1 { "+want+" }\n")
	}
}

// R5: what is handed in is left as it is, its spare room too.
func TestPrintLeavesTheProgram(t *testing.T) {
	p := read(t, "node n(a, b, c) budget 1 { a ? b + 1 : c } flow f = n(x, 3 fby y, (tail z) *^ 2); output o = f deadline 1;")
	want := showProgram(p)
	whole := p.Nodes[0].Params
	p.Nodes[0].Params = whole[:1]
	args := p.Flows[0].E.Args
	p.Flows[0].E.Args = args[:1]
	syntax.Print(p)
	p.Nodes[0].Params = whole
	p.Flows[0].E.Args = args
	syntax.Print(p)
	syntax.Depth(p.Flows[0].E)
	if got := showProgram(p); got != want {
		t.Error(got)
	}
}

// R1: programs that can't be read are written somehow.
func TestPrintEnds(t *testing.T) {
	for kind := -1; kind <= 20; kind++ {
		for _, name := range []string{"", "?", "+", "x"} {
			for args := range 4 {
				e := api.Expr{Kind: kind, Name: name, N: -1 << 63, D: -1, Args: make([]api.Expr, args), At: -1}
				syntax.Print(api.Program{Nodes: []api.Node{{Body: e}}, Flows: []api.Flow{{E: e}}})
				around := api.Expr{Kind: api.EOver, Args: []api.Expr{e}}
				syntax.Print(api.Program{Nodes: []api.Node{{Body: around}}, Flows: []api.Flow{{E: around}}})
			}
		}
	}
	syntax.Print(api.Program{Nodes: make([]api.Node, 2), Inputs: make([]api.Input, 2), Flows: make([]api.Flow, 2), Outputs: make([]api.Output, 2)})
	deep := api.Expr{}
	for range 1000000 {
		deep = api.Expr{Kind: api.ETail, Args: []api.Expr{deep}}
	}
	for _, e := range []api.Expr{deep, endless(1), endless(6), endless(1000)} {
		for _, kind := range []int{api.ETail, api.ECall, api.EOp, api.EOver} {
			e.Kind = kind
			if n := len(syntax.Print(api.Program{Nodes: []api.Node{{Body: e}, {Body: e}}, Flows: []api.Flow{{E: e}, {E: e}}})); n > 1<<20 {
				t.Error(kind, n)
			}
		}
	}
}

// P4.2: nothing is left out of as many declarations as there may be, in which nearly each byte makes two expressions.
func TestPrintTheGreatest(t *testing.T) {
	piece := strings.Repeat("-", 16) + "1"
	node := "node n(a)budget 1{" + piece + strings.Repeat("+"+piece, 3) + "}"
	printed := syntax.Print(read(t, strings.Repeat(node, api.MaxDecls)))
	if got := strings.Count(printed, "0 - "); got != 16*4*api.MaxDecls {
		t.Error(got, printed)
	}
	if got := strings.Count(printed, " + "); got != 3*api.MaxDecls {
		t.Error(got, printed)
	}
}
