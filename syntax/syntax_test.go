package syntax_test

import (
	"strconv"
	"strings"
	"testing"

	"horarium/api"
	"horarium/syntax"
)

// kindWord is how show calls an expression's kind.
func kindWord(kind int) string {
	words := map[int]string{
		api.EName: "name", api.ECall: "call", api.EOver: "over", api.EUnder: "under", api.EShift: "shift", api.EFby: "fby",
		api.ETail: "tail", api.ECons: "cons", api.EParam: "param", api.EConst: "const", api.EOp: "op",
	}
	if w, ok := words[kind]; ok {
		return w
	}
	return "kind" + strconv.Itoa(kind)
}

// show tells all fields of an expression: its kind, its name behind :, its numbers behind / (zeros left out), its place behind @, its arguments in brackets.
func show(e api.Expr) string {
	s := kindWord(e.Kind)
	if e.Name != "" {
		s += ":" + e.Name
	}
	if e.N != 0 || e.D != 0 {
		s += "/" + strconv.FormatInt(e.N, 10)
	}
	if e.D != 0 {
		s += "/" + strconv.FormatInt(e.D, 10)
	}
	s += "@" + strconv.Itoa(e.At)
	if len(e.Args) == 0 {
		return s
	}
	args := make([]string, len(e.Args))
	for i, a := range e.Args {
		args[i] = show(a)
	}
	return s + "(" + strings.Join(args, " ") + ")"
}

// showProgram tells all fields of a program, a line for each declaration.
func showProgram(p api.Program) string {
	var lines []string
	put := func(name string, at int, rest ...string) {
		lines = append(lines, name+"@"+strconv.Itoa(at)+" "+strings.Join(rest, " "))
	}
	ticks := func(n int64) string { return strconv.FormatInt(n, 10) }
	for _, n := range p.Nodes {
		put("node "+n.Name, n.At, strings.Join(n.Params, ","), ticks(n.Budget), show(n.Body))
	}
	for _, i := range p.Inputs {
		put("input "+i.Name, i.At, ticks(i.Period), ticks(i.Phase))
	}
	for _, f := range p.Flows {
		put("flow "+f.Name, f.At, show(f.E))
	}
	for _, o := range p.Outputs {
		put("output "+o.Name, o.At, o.Flow, ticks(o.Deadline))
	}
	return strings.Join(lines, "\n")
}

// read parses a text that has to be right.
func read(t *testing.T, s string) api.Program {
	t.Helper()
	p, at, err := syntax.Parse(s)
	if at != 0 || err != api.OK {
		t.Fatalf("%q: at %d, %v; should be right", s, at, err)
	}
	return p
}

// readsAs asks that the text is read as just this.
func readsAs(t *testing.T, s string, want ...string) {
	t.Helper()
	if got := showProgram(read(t, s)); got != strings.Join(want, "\n") {
		t.Errorf("%q is\n%s\nshould be\n%s", s, got, strings.Join(want, "\n"))
	}
}

// faultOf asks that the text has just this error, with nothing beside it but its place (R3).
func faultOf(t *testing.T, s string, wantAt int, want api.Errno) {
	t.Helper()
	p, at, err := syntax.Parse(s)
	if at != wantAt || err != want {
		t.Errorf("%q: at %d, %v; should be at %d, %v", s, at, err, wantAt, want)
	}
	if len(p.Nodes)+len(p.Inputs)+len(p.Flows)+len(p.Outputs) != 0 {
		t.Errorf("%q: %v beside an error", s, p)
	}
}

// marked asks for an error at the place of the ! in the text, which isn't of it.
func marked(t *testing.T, s string, want api.Errno) {
	t.Helper()
	ahead, behind, _ := strings.Cut(s, "!")
	faultOf(t, ahead+behind, len(ahead), want)
}

// exprIs asks how an EXPR is read; places are those in the EXPR itself.
func exprIs(t *testing.T, s, want string) {
	t.Helper()
	p := read(t, "flow f="+s+";")
	if got := show(moved(p.Flows[0].E, -len("flow f="))); got != want {
		t.Errorf("%q is %s, should be %s", s, got, want)
	}
}

// bodyIs asks how a BODY is read; places are those in the BODY itself.
func bodyIs(t *testing.T, s, want string) {
	t.Helper()
	p := read(t, "node n(p)budget 1{"+s+"}")
	if got := show(moved(p.Nodes[0].Body, -len("node n(p)budget 1{"))); got != want {
		t.Errorf("%q is %s, should be %s", s, got, want)
	}
}

// moved is a copy of an expression whose places are later.
func moved(e api.Expr, later int) api.Expr {
	e.At += later
	args := make([]api.Expr, len(e.Args))
	for i, a := range e.Args {
		args[i] = moved(a, later)
	}
	e.Args = args
	return e
}

// P4.1: each declaration, with its places.
func TestDeclarations(t *testing.T) {
	readsAs(t, "")
	readsAs(t, " # nothing\n\t")
	readsAs(t, "node n(a, b) budget 2 { a }", "node n@5 a,b 2 param:a@24")
	readsAs(t, "node n ( a )budget 1000{7}#", "node n@5 a 1000 const/7@24")
	readsAs(t, "node n(a,a,b,c,d,n) budget 1 { z }", "node n@5 a,a,b,c,d,n 1 param:z@31")
	readsAs(t, "input i period 10 phase 7;", "input i@6 10 7")
	readsAs(t, "input i period 10;", "input i@6 10 0")
	readsAs(t, "input i period 1000 phase 1000;", "input i@6 1000 1000")
	readsAs(t, "input\n i\tperiod 1 phase 0 ;", "input i@7 1 0")
	readsAs(t, "flow f = x;", "flow f@5 name:x@9")
	readsAs(t, "output o = f deadline 20;", "output o@7 f 20")
	readsAs(t, "output o=f deadline 1;", "output o@7 f 1")
}

// P4.1: declarations come in any order, and are kept in it, each kind by itself; names aren't asked.
func TestOrderOfDeclarations(t *testing.T) {
	s := "output o = f deadline 2; flow f = x; flow f = y; input x period 1; node n(a) budget 1 { 1 }\n" +
		"output o = g deadline 3; node m(b) budget 2 { 2 } input y period 2 phase 1; flow g = z;"
	place := func(piece string) string { return strconv.Itoa(strings.Index(s, piece)) }
	readsAs(t, s,
		"node n@"+place("n(a)")+" a 1 const/1@"+place("1 }"),
		"node m@"+place("m(b)")+" b 2 const/2@"+place("2 } input"),
		"input x@"+place("x period")+" 1 0",
		"input y@"+place("y period")+" 2 1",
		"flow f@"+place("f = x")+" name:x@"+place("x; flow f = y"),
		"flow f@"+place("f = y")+" name:y@"+place("y; input"),
		"flow g@"+place("g = z")+" name:z@"+place("z;"),
		"output o@"+place("o = f")+" f 2",
		"output o@"+place("o = g")+" g 3")
}

// P4.1: the chapter's example.
func TestExample(t *testing.T) {
	readsAs(t, "flow f = 3 fby n(x *^ 2, (tail y) /^ 3);",
		"flow f@5 fby/3@9(call:n@15(over/2@19(name:x@17) under/3@34(tail@26(name:y@31))))")
}

// P4.1: an expression's kinds, each with its place.
func TestExprs(t *testing.T) {
	exprIs(t, "x", "name:x@0")
	exprIs(t, "node1", "name:node1@0")
	exprIs(t, "n(x)", "call:n@0(name:x@2)")
	exprIs(t, "n (x,y)", "call:n@0(name:x@3 name:y@5)")
	exprIs(t, "n(a,b,c,d,e,f)", "call:n@0(name:a@2 name:b@4 name:c@6 name:d@8 name:e@10 name:f@12)")
	exprIs(t, "n(3 fby x, tail y)", "call:n@0(fby/3@2(name:x@8) tail@11(name:y@16))")
	exprIs(t, "n(m(x), x)", "call:n@0(call:m@2(name:x@4) name:x@8)")
	exprIs(t, "x *^ 2", "over/2@2(name:x@0)")
	exprIs(t, "x /^ 100", "under/100@2(name:x@0)")
	exprIs(t, "x ~> 0 / 1", "shift/0/1@2(name:x@0)")
	exprIs(t, "x ~> 100/100", "shift/100/100@2(name:x@0)")
	exprIs(t, "3 fby x", "fby/3@0(name:x@6)")
	exprIs(t, "-3 fby x", "fby/-3@0(name:x@7)")
	exprIs(t, " - 3 fby x", "fby/-3@1(name:x@9)")
	exprIs(t, "-0 fby x", "fby@0(name:x@7)")
	exprIs(t, "1000000000 :: x", "cons/1000000000@0(name:x@14)")
	exprIs(t, "-1000000000::x", "cons/-1000000000@0(name:x@13)")
	exprIs(t, "tail x", "tail@0(name:x@5)")
	exprIs(t, "tailx", "name:tailx@0")
	exprIs(t, "(x)", "name:x@1")
	exprIs(t, "((tail x))", "tail@2(name:x@7)")
}

// P4.1: what stands further left is further in; fby, :: and tail reach to the end.
func TestRanksOfExprs(t *testing.T) {
	exprIs(t, "x *^ 2 /^ 3 ~> 1/2 *^ 4", "over/4@19(shift/1/2@12(under/3@7(over/2@2(name:x@0))))")
	exprIs(t, "3 fby x *^ 2", "fby/3@0(over/2@8(name:x@6))")
	exprIs(t, "(3 fby x) *^ 2", "over/2@10(fby/3@1(name:x@7))")
	exprIs(t, "3::x/^2", "cons/3@0(under/2@4(name:x@3))")
	exprIs(t, "(3::x)/^2", "under/2@6(cons/3@1(name:x@4))")
	exprIs(t, "tail x ~> 1/2", "tail@0(shift/1/2@7(name:x@5))")
	exprIs(t, "(tail x) ~> 1/2", "shift/1/2@9(tail@1(name:x@6))")
	exprIs(t, "1 fby -2 :: tail 3 fby x", "fby/1@0(cons/-2@6(tail@12(fby/3@17(name:x@23))))")
	exprIs(t, "tail tail x", "tail@0(tail@5(name:x@10))")
	exprIs(t, "n(x) *^ 2", "over/2@5(call:n@0(name:x@2))")
	exprIs(t, "(((x) *^ 2)) *^ 3", "over/3@13(over/2@6(name:x@3))")
}

// P4.1: a body's kinds, each with its place; of - ONE, the 0 stands where its sign does.
func TestBodies(t *testing.T) {
	bodyIs(t, "p", "param:p@0")
	bodyIs(t, "q", "param:q@0")
	bodyIs(t, "0", "const@0")
	bodyIs(t, "1000000000", "const/1000000000@0")
	bodyIs(t, "(p)", "param:p@1")
	for _, sign := range []string{"+", "-", "*", "/", "%", "<", "=="} {
		bodyIs(t, "p"+sign+"1", "op:"+sign+"@1(param:p@0 const/1@"+strconv.Itoa(1+len(sign))+")")
	}
	bodyIs(t, "p ? 1 : q", "op:?@2(param:p@0 const/1@4 param:q@8)")
	bodyIs(t, "-p", "op:-@0(const@0 param:p@1)")
	bodyIs(t, "- - 5", "op:-@0(const@0 op:-@2(const@2 const/5@4))")
	bodyIs(t, "p--1", "op:-@1(param:p@0 op:-@2(const@2 const/1@3))")
	bodyIs(t, "-(p)", "op:-@0(const@0 param:p@2)")
}

// P4.1: what stands further left is further in, and each rank binds as the chapter says.
func TestRanksOfBodies(t *testing.T) {
	bodyIs(t, "1-2-3", "op:-@3(op:-@1(const/1@0 const/2@2) const/3@4)")
	bodyIs(t, "1-2+3", "op:+@3(op:-@1(const/1@0 const/2@2) const/3@4)")
	bodyIs(t, "1-(2-3)", "op:-@1(const/1@0 op:-@4(const/2@3 const/3@5))")
	bodyIs(t, "1/2*3%4", "op:%@5(op:*@3(op:/@1(const/1@0 const/2@2) const/3@4) const/4@6)")
	bodyIs(t, "1+2*3", "op:+@1(const/1@0 op:*@3(const/2@2 const/3@4))")
	bodyIs(t, "1*2+3", "op:+@3(op:*@1(const/1@0 const/2@2) const/3@4)")
	bodyIs(t, "(1+2)*3", "op:*@5(op:+@2(const/1@1 const/2@3) const/3@6)")
	bodyIs(t, "-1*2", "op:*@2(op:-@0(const@0 const/1@1) const/2@3)")
	bodyIs(t, "1*-2%3", "op:%@4(op:*@1(const/1@0 op:-@2(const@2 const/2@3)) const/3@5)")
	bodyIs(t, "1+2<3-4", "op:<@3(op:+@1(const/1@0 const/2@2) op:-@5(const/3@4 const/4@6))")
	bodyIs(t, "1==2%3", "op:==@1(const/1@0 op:%@4(const/2@3 const/3@5))")
	bodyIs(t, "(1<2)==3", "op:==@5(op:<@2(const/1@1 const/2@3) const/3@7)")
	bodyIs(t, "1<2?3:4", "op:?@3(op:<@1(const/1@0 const/2@2) const/3@4 const/4@6)")
	bodyIs(t, "1?2<3:4==5", "op:?@1(const/1@0 op:<@3(const/2@2 const/3@4) op:==@7(const/4@6 const/5@9))")
	bodyIs(t, "1?2:3?4:5", "op:?@1(const/1@0 const/2@2 op:?@5(const/3@4 const/4@6 const/5@8))")
	bodyIs(t, "1?2?3:4:5", "op:?@1(const/1@0 op:?@3(const/2@2 const/3@4 const/4@6) const/5@8)")
	bodyIs(t, "(1?2:3)?4:5", "op:?@7(op:?@2(const/1@1 const/2@3 const/3@5) const/4@8 const/5@10)")
	bodyIs(t, "1+(2?3:4)", "op:+@1(const/1@0 op:?@4(const/2@3 const/3@5 const/4@7))")
}

// P4.1: layer 3's errors come first, wherever they are.
func TestLexErrors(t *testing.T) {
	faultOf(t, "flow f = x; A", 12, api.ErrSyntax)
	faultOf(t, "x ~", 2, api.ErrSyntax)
	faultOf(t, "x 1000000001", 2, api.ErrRange)
	faultOf(t, "input x period 0; flow f = 9999999999 fby x;", 27, api.ErrRange)
	faultOf(t, strings.Repeat("x", api.MaxText+1), 0, api.ErrLimit)
	faultOf(t, "flow f = x;"+strings.Repeat(" ", api.MaxText), 0, api.ErrLimit)
	faultOf(t, "x"+strings.Repeat(" ", api.MaxText), 0, api.ErrLimit)
	read(t, "flow f = x;"+strings.Repeat(" ", api.MaxText-11))
}

// P4.1: at each place of a text another token, and its end.
func TestSyntaxErrors(t *testing.T) {
	for _, s := range []string{
		// Declarations.
		"!x", "!3", "!;", "!tail", "!budget", "flow f = x; !;", "node n(a) budget 1 { 1 } !;", "flow f = x; !f = x;",
		// Nodes.
		"node !", "node !node(a) budget 1 { 1 }", "node !3(a) budget 1 { 1 }", "node n !budget", "node n!", "node n(!", "node n(!)", "node n(!) budget 1 { 1 }",
		"node n(!3) budget 1 { 1 }", "node n(!flow) budget 1 { 1 }", "node n(!(a)) budget 1 { 1 }", "node n(a !b) budget 1 { 1 }", "node n(a,!) budget 1 { 1 }", "node n(a,!,b) budget 1 { 1 }",
		"node n(a!", "node n(a) !{ 1 }", "node n(a) !period 1 { 1 }", "node n(a) budget !{ 1 }", "node n(a) budget !x { 1 }", "node n(a) budget !-1 { 1 }",
		"node n(a) budget 1 !1", "node n(a) budget 1 { !}", "node n(a) budget 1 { 1 !", "node n(a) budget 1 { 1 !;", "node n(a) budget 1 { 1 !a }",
		// Inputs.
		"input !", "input !input period 1;", "input x !phase 1;", "input x !10;", "input x period !;", "input x period !phase;", "input x period !-1;", "input x period 1 !", "input x period 1 !,",
		"input x period 1 phase !;", "input x period 1 phase !-1;", "input x period 1 phase 1 !flow", "input x period 1 phase 1 !", "input x period 1 phase 1 !phase 1;", "input x != 1;",
		// Flows.
		"flow !", "flow !tail = x;", "flow f !", "flow f !x;", "flow f !== x;", "flow f = !", "flow f = !;", "flow f = x!", "flow f = x !flow", "flow f = x !y;",
		// Outputs.
		"output !", "output !output = f deadline 1;", "output o !f", "output o = !3", "output o = !deadline 1;", "output o = f !;", "output o = f!(x) deadline 1;", "output o = f !period 1;",
		"output o = f deadline !;", "output o = f deadline !f;", "output o = f deadline 1!", "output o = f deadline 1 !phase 1;",
		// What is behind the last token counts as the text.
		"flow f = x # remark\n !", "input x\n\n!",
	} {
		marked(t, s, api.ErrSyntax)
	}
}

// P4.1
func TestSyntaxErrorsInExprs(t *testing.T) {
	for _, s := range []string{
		"!", "!)", "!*^ 2", "!node", "!budget", "!fby x", "!:: x", "!+ x", "3 !", "3 !x", "3 !: x", "3 !*^ 2", "3 !tail x", "-!", "-!x", "-!-3 fby x", "-!tail x", "- 3 !;", "!+3 fby x",
		"3 fby !", "3 fby !fby", "3 :: !", "3 fby 4 !", "tail !", "tail !node", "tail 3 !*^ 2", "tail!", "3 fby!",
		"x !fby y", "x !:: y", "x !tail y", "x !3", "x !+ y", "x !- 3", "x !* 3", "x !/ 3", "x !< y",
		"x *^ !", "x *^ !y", "x *^ !-2", "x *^ !(2)", "x /^ !;", "x ~> !", "x ~> !/ 2", "x ~> !-1/2", "x ~> 1 !", "x ~> 1 !2", "x ~> 1 !/^ 2", "x ~> 1 / !", "x ~> 1 / !x", "x ~> 1 / !-2", "x ~> 1/2 !/ 3",
		"(!", "(!)", "(x!", "(x !,y)", "(x !;", "(x) !(y)", "(3!) fby x", "(x)!)", "((x)!",
		"n(!", "n(!)", "n(!,x)", "n(x!", "n(x,!", "n(x,!)", "n(x,!,y)", "n(x !y)", "n(x !;", "n(x) !(y)", "n(x) !x", "n(3!)", "n(-!)", "n(tail!)", "n(x *^!)", "n((x!;",
	} {
		marked(t, "flow f = "+s, api.ErrSyntax)
	}
}

// P4.1
func TestSyntaxErrorsInBodies(t *testing.T) {
	for _, s := range []string{
		"!", "!+ 1", "!* 1", "!)", "!tail", "!node", "!? 1 : 2", "!*^ 2", "!fby", "a !b", "a !1", "1 !a", "a !(b)", "a !fby b", "a !:: b", "a !*^ 2", "a !/^ 2", "a !~> 1/2", "a != b", "a!:1",
		"a + !", "a + !+ b", "a + !}", "a - - !", "a * !/ b", "a % !fby", "-!", "-!}", "-!* 2", "- - !)",
		"a < !", "a < !< b", "a < b !< c", "a < b !== c", "a == b !== c", "a == b !< c", "a < b ? c < d !< e",
		"a ? !", "a ? !: b", "a ? b !", "a ? b !}", "a ? b !, c", "a ? b : !", "a ? b : !}", "a ? b : c !: d", "a ? b : c ? d !}", "a ? b !:: c",
		"(!", "(!)", "(a!", "(a !}", "(a !,b)", "(a)!)", "((a)!}", "(a !b)", "a + (b ? c!)", "a !;",
	} {
		marked(t, "node n(a) budget 1 { "+s, api.ErrSyntax)
	}
}

// P4.1: each number, at both of its ends.
func TestRanges(t *testing.T) {
	for _, c := range []struct {
		ahead, behind string
		least, most   int64
	}{
		{"node n(a) budget ", " { 1 }", 1, api.MaxTicks},
		{"input x period ", ";", 1, api.MaxTicks},
		{"input x period ", " phase 0;", 1, api.MaxTicks},
		{"input x period 1 phase ", ";", 0, api.MaxTicks},
		{"output o = f deadline ", ";", 1, api.MaxTicks},
		{"flow f = x *^ ", ";", 1, api.MaxFactor},
		{"flow f = x /^ ", ";", 1, api.MaxFactor},
		{"flow f = x ~> ", " / 1;", 0, api.MaxFactor},
		{"flow f = x ~> 1 / ", ";", 1, api.MaxFactor},
		{"flow f = ", " fby x;", 0, 1000000000},
		{"flow f = -", " :: x;", 0, 1000000000},
		{"node n(a) budget 1 { a + ", "}", 0, 1000000000},
	} {
		read(t, c.ahead+strconv.FormatInt(c.least, 10)+c.behind)
		read(t, c.ahead+strconv.FormatInt(c.most, 10)+c.behind)
		faultOf(t, c.ahead+strconv.FormatInt(c.most+1, 10)+c.behind, len(c.ahead), api.ErrRange)
		if c.least == 1 {
			faultOf(t, c.ahead+"0"+c.behind, len(c.ahead), api.ErrRange)
		}
		// It is the number that is asked, whatever stands behind it.
		if c.most < 1000000000 {
			faultOf(t, c.ahead+"1000000000 ) )", len(c.ahead), api.ErrRange)
			faultOf(t, c.ahead+"1000000000", len(c.ahead), api.ErrRange)
		}
	}
	// Zeros ahead are no more.
	readsAs(t, "input x period 0001000 phase 00;", "input x@6 1000 0")
}

// P4.1: the first word of the declaration that is one too many.
func TestTooManyDeclarations(t *testing.T) {
	all := []string{"node n(a) budget 1 { a }\n", "input x period 1;\n", "flow f = x;\n", "output o = f deadline 1;\n"}
	mixed := ""
	for i := range api.MaxDecls {
		mixed += all[i%len(all)]
	}
	read(t, mixed)
	faultOf(t, mixed+"x", len(mixed), api.ErrSyntax)
	faultOf(t, mixed+"tail", len(mixed), api.ErrSyntax)
	for _, one := range all {
		full := strings.Repeat(one, api.MaxDecls)
		read(t, full)
		faultOf(t, full+";", len(full), api.ErrSyntax)
		for _, next := range all {
			faultOf(t, full+next, len(full), api.ErrLimit)
			word, _, _ := strings.Cut(next, " ")
			faultOf(t, full+"# one\n "+word, len(full)+7, api.ErrLimit)
			faultOf(t, full+word+" 0 0", len(full), api.ErrLimit)
		}
		less := strings.Repeat(one, api.MaxDecls-1)
		faultOf(t, less+"node "+one, len(less)+5, api.ErrSyntax)
	}
}

// P4.1: the first token of the parameter, or argument, that is one too many.
func TestTooManyParams(t *testing.T) {
	read(t, "node n(a,b,c,d,e,f) budget 1 { 1 }")
	marked(t, "node n(a,b,c,d,e,f,!g) budget 1 { 1 }", api.ErrLimit)
	marked(t, "node n(a,b,c,d,e,f, !g", api.ErrLimit)
	marked(t, "node n(a,a,a,a,a,a,!a,a,tail", api.ErrLimit)
	// What is no parameter isn't one too many.
	marked(t, "node n(a,b,c,d,e,f,!) budget 1 { 1 }", api.ErrSyntax)
	marked(t, "node n(a,b,c,d,e,f,!tail) budget 1 { 1 }", api.ErrSyntax)
	marked(t, "node n(a,b,c,d,e,f,!7) budget 1 { 1 }", api.ErrSyntax)
	marked(t, "node n(a,b,c,d,e,f !g) budget 1 { 1 }", api.ErrSyntax)
	marked(t, "node n(a,b,c,d,e,f,!", api.ErrSyntax)
	read(t, "flow f = n(a,b,c,d,e,f);")
	for _, next := range []string{"g", "n(x)", "tail x", "3 fby x", "-3 :: x", "(x)", "x *^ 0", "- ;", "3", "(", "tail"} {
		marked(t, "flow f = n(a,b,c,d,e,f, !"+next+");", api.ErrLimit)
		marked(t, "flow f = n(a,n(a,b,c,d,e,f, !"+next, api.ErrLimit)
	}
	for _, next := range []string{"", ")", ",", ";", "fby", "node", "+", "*^ 2", "="} {
		marked(t, "flow f = n(a,b,c,d,e,f, !"+next, api.ErrSyntax)
	}
	// Each call's arguments are counted by themselves.
	read(t, "flow f = n(m(a,b,c,d,e,f),m(a,b,c,d,e,f),c,d,e,m(a,b,c,d,e,f));")
	marked(t, "flow f = n(m(a,b,c,d,e,f),b,c,d,e,f,!m(a));", api.ErrLimit)
}

// deepest is how often, so that a chain of one each above a leaf is just as deep as may be.
const deepest = api.MaxDepth - 1

// P4.1: of each kind a chain that is as deep as may be, and deeper ones; the innermost that is too deep is told, when it is whole.
func TestTooDeepExprs(t *testing.T) {
	for _, ahead := range []string{"tail ", "3 fby ", "-3 :: ", "- 0 fby ", "n(", "n (x, "} {
		behind := ""
		if strings.Contains(ahead, "(") {
			behind = ")"
		}
		chain := func(n int) string { return strings.Repeat(ahead, n) + "x" + strings.Repeat(behind, n) }
		read(t, "flow f="+chain(deepest)+";")
		for more := 1; more <= 5; more++ {
			faultOf(t, "flow f="+chain(deepest+more)+";", 7+(more-1)*len(ahead), api.ErrDepth)
			// What is behind it isn't asked any more.
			faultOf(t, "flow f="+chain(deepest+more)+" x", 7+(more-1)*len(ahead), api.ErrDepth)
			faultOf(t, "flow f="+chain(deepest+more), 7+(more-1)*len(ahead), api.ErrDepth)
		}
	}
	for _, behind := range []string{" *^ 2", " /^ 2", " ~> 1/2", "\n*^ 1"} {
		read(t, "flow f = x"+strings.Repeat(behind, deepest)+";")
		for more := 1; more <= 5; more++ {
			faultOf(t, "flow f = x"+strings.Repeat(behind, deepest+more)+";", 11+deepest*len(behind), api.ErrDepth)
		}
	}
	// Brackets don't make it deeper.
	read(t, "flow f = "+strings.Repeat("(", 1900)+"x"+strings.Repeat(")", 1900)+";")
	read(t, "flow f = "+strings.Repeat("(tail ", deepest)+"x"+strings.Repeat(")", deepest)+";")
}

// P4.1
func TestTooDeepBodies(t *testing.T) {
	const ahead = "node n(a) budget 1 { "
	for _, sign := range []string{"+", "-", "*", "/", "%"} {
		chain := func(n int) string { return "a" + strings.Repeat(sign+"a", n) }
		read(t, ahead+chain(deepest)+"}")
		for more := 1; more <= 5; more++ {
			faultOf(t, ahead+chain(deepest+more)+"}", len(ahead)+2*deepest+1, api.ErrDepth)
		}
	}
	for _, sign := range []string{"+", "-", "*", "/", "%", "<", "=="} {
		piece := "a" + sign + "("
		chain := func(n int) string { return strings.Repeat(piece, n) + "a" + strings.Repeat(")", n) }
		read(t, ahead+chain(deepest)+"}")
		for more := 1; more <= 5; more++ {
			faultOf(t, ahead+chain(deepest+more)+"}", len(ahead)+(more-1)*len(piece)+1, api.ErrDepth)
		}
	}
	read(t, ahead+strings.Repeat("a?b:", deepest)+"a}")
	faultOf(t, ahead+strings.Repeat("a?b:", deepest+1)+"a}", len(ahead)+1, api.ErrDepth)
	faultOf(t, ahead+strings.Repeat("a?b:", deepest+3)+"a}", len(ahead)+9, api.ErrDepth)
	read(t, ahead+strings.Repeat("a?", deepest)+"a"+strings.Repeat(":a", deepest)+"}")
	faultOf(t, ahead+strings.Repeat("a?", deepest+1)+"a"+strings.Repeat(":a", deepest+1)+"}", len(ahead)+1, api.ErrDepth)
	read(t, ahead+strings.Repeat("-", deepest)+"a}")
	faultOf(t, ahead+strings.Repeat("-", deepest+1)+"a}", len(ahead), api.ErrDepth)
	faultOf(t, ahead+strings.Repeat("-", deepest+4)+"a", len(ahead)+3, api.ErrDepth)
	read(t, ahead+strings.Repeat("(", 1900)+"a"+strings.Repeat(")", 1900)+"}")
	// As deep as it may get without being whole, in so long a text.
	faultOf(t, ahead+strings.Repeat("-", 3000), len(ahead)+3000, api.ErrSyntax)
	faultOf(t, ahead+strings.Repeat("(", 3000), len(ahead)+3000, api.ErrSyntax)
	faultOf(t, ahead+strings.Repeat("a?", 1900), len(ahead)+3800, api.ErrSyntax)
}

// P4.1: the first token at which one is met; what isn't whole isn't too deep.
func TestWhichIsFirst(t *testing.T) {
	tails := strings.Repeat("tail ", deepest)
	marked(t, "flow f = n("+tails+"x, 3 !y);", api.ErrSyntax)
	marked(t, "flow f = n("+tails+"x !;", api.ErrSyntax)
	marked(t, "flow f = !n("+tails+"x) ;", api.ErrDepth)
	marked(t, "flow f = n(!tail "+tails+"x, 3 y);", api.ErrDepth)
	marked(t, "flow f = (!tail "+tails+"x ;", api.ErrDepth)
	marked(t, "flow f = ("+tails+"x) *^ !101;", api.ErrRange)
	marked(t, "flow f = ("+tails+"x) ~> 1 / !101;", api.ErrRange)
	marked(t, "flow f = ("+tails+"x) !*^ 100 /^ 0;", api.ErrDepth)
	marked(t, "flow f = tail "+tails+"x *^ !0;", api.ErrRange)
	marked(t, "flow f = n(x,x,x,x,x,"+tails+"x,!x,x;", api.ErrLimit)
	marked(t, "flow f = n(x,x,x,x,x,!tail "+tails+"x,x,x;", api.ErrDepth)
	marked(t, "input x period !0; flow f = 3 x;", api.ErrRange)
	marked(t, "flow f = 3 !x; input x period 0;", api.ErrSyntax)
	marked(t, "node n(a,a,a,a,a,a,!a) budget 0 { }", api.ErrLimit)
	marked(t, "node n(a) budget !0 { }", api.ErrRange)
	marked(t, "node n(a) budget 1 { "+strings.Repeat("-", deepest-1)+"(a !", api.ErrSyntax)
	marked(t, "node n(a) budget 1 { 1 !+ ("+strings.Repeat("-", deepest)+"a) + }", api.ErrDepth)
	// The * is further in, and whole ahead of its +.
	marked(t, "node n(a) budget 1 { 1 + a !* ("+strings.Repeat("-", deepest)+"a) }", api.ErrDepth)
	marked(t, "node n(a) budget 1 { 1 !+ a * ("+strings.Repeat("-", deepest-1)+"a) }", api.ErrDepth)
}

// R5: what is answered is new, and no two lists of it share any.
func TestParsedIsNew(t *testing.T) {
	const s = "node n(a, b) budget 1 { a + b * a } node m(a) budget 1 { 1 } flow f = n(x, m(y, z)); flow g = n(x, x);"
	first, second := read(t, s), read(t, s)
	want := showProgram(first)
	second.Nodes[0].Params[0] = "changed"
	second.Nodes[0].Body.Args[1].Args[0].Name = "changed"
	second.Flows[0].E.Args[1].Args[0].Name = "changed"
	for _, n := range first.Nodes {
		_ = append(n.Params, "changed")
		appendToAll(n.Body)
	}
	for _, f := range first.Flows {
		appendToAll(f.E)
	}
	if got := showProgram(first); got != want {
		t.Error(got)
	}
}

// appendToAll writes into the spare room of all lists of an expression.
func appendToAll(e api.Expr) {
	_ = append(e.Args, api.Expr{Name: "changed"})
	for _, a := range e.Args {
		appendToAll(a)
	}
}

// Words: an expression's depth.
func TestDepth(t *testing.T) {
	depthIs := func(e api.Expr, want int) {
		t.Helper()
		if got := syntax.Depth(e); got != want {
			t.Errorf("%s: %d, should be %d", show(e), got, want)
		}
	}
	leaf := api.Expr{Kind: api.EName, Name: "x"}
	above := func(args ...api.Expr) api.Expr { return api.Expr{Kind: api.ECall, Name: "n", Args: args} }
	depthIs(api.Expr{}, 1)
	depthIs(leaf, 1)
	depthIs(api.Expr{Kind: api.ECall, Args: []api.Expr{}}, 1)
	depthIs(above(leaf), 2)
	depthIs(above(leaf, leaf, leaf), 2)
	depthIs(above(above(above(leaf)), leaf), 4)
	depthIs(above(leaf, above(above(leaf))), 4)
	depthIs(above(leaf, above(leaf), above(leaf, above(leaf), leaf), leaf), 4)
	// Whatever kind it has.
	depthIs(api.Expr{Kind: -7, Args: []api.Expr{{Kind: 99, Args: []api.Expr{{}}}}}, 3)
	depthIs(read(t, "flow f = 3 fby n(x *^ 2, (tail y) /^ 3);").Flows[0].E, 5)
	depthIs(read(t, "node n(a) budget 1 { -1 }").Nodes[0].Body, 2)
	depthIs(read(t, "node n(a) budget 1 { a ? 1 : (2 + 3 * 4) }").Nodes[0].Body, 4)
}

// R1: very deep expressions, and such as share their arguments, or hold themselves.
func TestDepthEnds(t *testing.T) {
	const many = 1000000
	deep := api.Expr{}
	for range many {
		deep = api.Expr{Kind: api.ETail, Args: []api.Expr{deep}}
	}
	if got := syntax.Depth(deep); got != many+1 {
		t.Error(got)
	}
	shared := api.Expr{}
	for range 200 {
		shared = api.Expr{Kind: api.EOp, Name: "+", Args: []api.Expr{shared, shared}}
	}
	if got := syntax.Depth(shared); got != 201 {
		t.Error(got)
	}
	// Of one list the pieces are as deep as what is in them.
	l := []api.Expr{{}, {}, {}}
	l[1].Args, l[2].Args = l[:1], l[:2]
	if got := syntax.Depth(api.Expr{Args: l}); got != 4 {
		t.Error(got)
	}
	syntax.Depth(endless(1))
	syntax.Depth(endless(6))
}

// endless is an expression whose arguments are all itself.
func endless(args int) api.Expr {
	e := api.Expr{Kind: api.ECall, Name: "n", Args: make([]api.Expr, args)}
	for i := range e.Args {
		e.Args[i] = e
	}
	return e
}
