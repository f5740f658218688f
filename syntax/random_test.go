package syntax_test

import (
	"math/rand"
	"slices"
	"strconv"
	"strings"
	"testing"

	"horarium/api"
	"horarium/lex"
	"horarium/syntax"
)

// grammar is the chapter's, rule by rule; what isn't a key of it is a token.
func grammar() map[string][][]string {
	rules := map[string][]string{
		"PROGRAM": {"DECL", "PROGRAM DECL"},
		"DECL": {
			"node NAME ( PARAMS ) budget NUM { BODY }", "input NAME period NUM ;", "input NAME period NUM phase NUM ;",
			"flow NAME = EXPR ;", "output NAME = NAME deadline NUM ;",
		},
		"PARAMS": {"NAME", "PARAMS , NAME"},
		"EXPR":   {"SIGNED fby EXPR", "SIGNED :: EXPR", "tail EXPR", "POST"},
		"SIGNED": {"NUM", "- NUM"},
		"POST":   {"ATOM", "POST *^ NUM", "POST /^ NUM", "POST ~> NUM / NUM"},
		"ATOM":   {"NAME", "NAME ( ARGS )", "( EXPR )"},
		"ARGS":   {"EXPR", "ARGS , EXPR"},
		"BODY":   {"HELD", "HELD ? BODY : BODY"},
		"HELD":   {"SUM", "SUM < SUM", "SUM == SUM"},
		"SUM":    {"PROD", "SUM + PROD", "SUM - PROD"},
		"PROD":   {"ONE", "PROD * ONE", "PROD / ONE", "PROD % ONE"},
		"ONE":    {"- ONE", "NUM", "NAME", "( BODY )"},
	}
	g := map[string][][]string{}
	for head, bodies := range rules {
		for _, b := range bodies {
			g[head] = append(g[head], strings.Fields(b))
		}
	}
	return g
}

// class is what the grammar calls the token.
func class(t lex.Token) string {
	switch {
	case t.Kind == 2:
		return "NUM"
	case t.Kind == 1 && !slices.Contains(lex.Words(), t.Text):
		return "NAME"
	}
	return t.Text
}

// item is a rule that is read up to a dot, from a token on.
type item struct {
	head      string
	rule, dot int
	from      int
}

// firstWrong is the place of the first token behind which nothing can be a program any more (their number, if the end is wrong), or -1. It is found as Earley did, by all the rules at once.
func firstWrong(g map[string][][]string, classes []string) int {
	if len(classes) == 0 {
		return -1
	}
	sets := make([][]item, len(classes)+1)
	add := func(at int, it item) {
		if !slices.Contains(sets[at], it) {
			sets[at] = append(sets[at], it)
		}
	}
	expect := func(at int, head string) {
		for i := range g[head] {
			add(at, item{head: head, rule: i, from: at})
		}
	}
	expect(0, "PROGRAM")
	for at := range sets {
		if len(sets[at]) == 0 {
			return at - 1
		}
		for i := 0; i < len(sets[at]); i++ {
			it := sets[at][i]
			body := g[it.head][it.rule]
			if it.dot == len(body) {
				for _, above := range sets[it.from] {
					rest := g[above.head][above.rule][above.dot:]
					if len(rest) > 0 && rest[0] == it.head {
						above.dot++
						add(at, above)
					}
				}
				continue
			}
			if g[body[it.dot]] != nil {
				expect(at, body[it.dot])
			} else if at < len(classes) && classes[at] == body[it.dot] {
				it.dot++
				add(at+1, it)
			}
		}
	}
	for _, it := range sets[len(classes)] {
		if it.head == "PROGRAM" && it.from == 0 && it.dot == len(g[it.head][it.rule]) {
			return -1
		}
	}
	return len(classes)
}

// syntaxAsGrammar asks that a text of right tokens is read, or refused at the token, as the grammar has it.
func syntaxAsGrammar(t *testing.T, g map[string][][]string, s string) {
	t.Helper()
	tokens, _, err := lex.Lex(s)
	if err != api.OK {
		t.Fatalf("%q: %v", s, err)
	}
	classes := make([]string, len(tokens))
	for i := range tokens {
		classes[i] = class(tokens[i])
	}
	wrong := firstWrong(g, classes)
	wrongAt := len(s)
	if wrong >= 0 && wrong < len(tokens) {
		wrongAt = tokens[wrong].At
	}
	_, at, got := syntax.Parse(s)
	switch got {
	case api.OK:
		if wrong >= 0 {
			t.Errorf("%q is read; should be wrong at %d", s, wrongAt)
		}
	case api.ErrSyntax:
		if wrong < 0 || at != wrongAt {
			t.Errorf("%q: wrong at %d; should be so at %d (%d)", s, at, wrongAt, wrong)
		}
	default:
		if wrong >= 0 && at > wrongAt {
			t.Errorf("%q: at %d, %v; should be wrong at %d", s, at, got, wrongAt)
		}
	}
}

// P4.1: random declarations, and such with a token changed, put in, left out, or cut off behind.
func TestSyntaxAsGrammar(t *testing.T) {
	r := rand.New(rand.NewSource(4))
	g := grammar()
	all := append(lex.Words(), "*^", "/^", "~>", "::", "==", "(", ")", "{", "}", ",", ";", "=", "+", "-", "*", "/", "%", "<", "?", ":", "x", "n", "1", "0", "77", "1001")
	for range 6000 {
		m := maker{r: r}
		for range 1 + r.Intn(2) {
			m.declaration(3)
		}
		pieces := m.pieces
		syntaxAsGrammar(t, g, strings.Join(pieces, " "))
		at := r.Intn(len(pieces))
		other := all[r.Intn(len(all))]
		for _, l := range [][]string{
			slices.Replace(slices.Clone(pieces), at, at+1, other),
			slices.Insert(slices.Clone(pieces), at, other),
			slices.Delete(slices.Clone(pieces), at, at+1),
			pieces[:at],
		} {
			syntaxAsGrammar(t, g, strings.Join(l, " "))
		}
	}
}

// maker makes right tokens at random, and what they are to be read as, the places counted in tokens.
type maker struct {
	r      *rand.Rand
	pieces []string
	p      api.Program
}

// put is the place of the first of the tokens that it adds.
func (m *maker) put(pieces ...string) int {
	m.pieces = append(m.pieces, pieces...)
	return len(m.pieces) - len(pieces)
}

func (m *maker) number(least, most int64) int64 {
	n := least + m.r.Int63n(most-least+1)
	switch m.r.Intn(4) {
	case 0:
		n = least
	case 1:
		n = most
	}
	m.put(strconv.FormatInt(n, 10))
	return n
}

func (m *maker) name() (string, int) {
	names := []string{"a", "b", "x1", "n", "tails", "flow_", "node2", "f"}
	s := names[m.r.Intn(len(names))]
	return s, m.put(s)
}

func (m *maker) some(one func()) {
	m.put("(")
	for i := range 1 + m.r.Intn(api.MaxParams) {
		if i > 0 {
			m.put(",")
		}
		one()
	}
	m.put(")")
}

func (m *maker) declaration(deep int) {
	switch m.r.Intn(4) {
	case 0:
		m.put("node")
		var n api.Node
		n.Name, n.At = m.name()
		m.some(func() {
			s, _ := m.name()
			n.Params = append(n.Params, s)
		})
		m.put("budget")
		n.Budget = m.number(1, api.MaxTicks)
		m.put("{")
		n.Body = m.body(deep)
		m.put("}")
		m.p.Nodes = append(m.p.Nodes, n)
	case 1:
		m.put("input")
		var i api.Input
		i.Name, i.At = m.name()
		m.put("period")
		i.Period = m.number(1, api.MaxTicks)
		if m.r.Intn(2) == 0 {
			m.put("phase")
			i.Phase = m.number(0, api.MaxTicks)
		}
		m.put(";")
		m.p.Inputs = append(m.p.Inputs, i)
	case 2:
		m.put("flow")
		var f api.Flow
		f.Name, f.At = m.name()
		m.put("=")
		f.E = m.expr(deep)
		m.put(";")
		m.p.Flows = append(m.p.Flows, f)
	case 3:
		m.put("output")
		var o api.Output
		o.Name, o.At = m.name()
		m.put("=")
		o.Flow, _ = m.name()
		m.put("deadline")
		o.Deadline = m.number(1, api.MaxTicks)
		m.put(";")
		m.p.Outputs = append(m.p.Outputs, o)
	}
}

func (m *maker) expr(deep int) api.Expr {
	var e api.Expr
	switch choice := m.r.Intn(7); {
	case deep == 0 || choice > 2:
		return m.post(deep)
	case choice == 2:
		e.Kind, e.At = api.ETail, m.put("tail")
	default:
		negative := m.r.Intn(2) == 0
		e.At = len(m.pieces)
		if negative {
			m.put("-")
		}
		e.N = m.number(0, 1000000000)
		if negative {
			e.N = -e.N
		}
		e.Kind = []int{api.EFby, api.ECons}[choice]
		m.put([]string{"fby", "::"}[choice])
	}
	e.Args = []api.Expr{m.expr(deep - 1)}
	return e
}

func (m *maker) post(deep int) api.Expr {
	if deep == 0 || m.r.Intn(2) == 0 {
		return m.atom(deep)
	}
	e := api.Expr{Args: []api.Expr{m.post(deep - 1)}}
	switch m.r.Intn(3) {
	case 0:
		e.Kind, e.At = api.EOver, m.put("*^")
		e.N = m.number(1, api.MaxFactor)
	case 1:
		e.Kind, e.At = api.EUnder, m.put("/^")
		e.N = m.number(1, api.MaxFactor)
	case 2:
		e.Kind, e.At = api.EShift, m.put("~>")
		e.N = m.number(0, api.MaxFactor)
		m.put("/")
		e.D = m.number(1, api.MaxFactor)
	}
	return e
}

func (m *maker) atom(deep int) api.Expr {
	choice := m.r.Intn(4)
	if choice == 0 {
		m.put("(")
		e := m.expr(deep)
		m.put(")")
		return e
	}
	e := api.Expr{Kind: api.EName}
	e.Name, e.At = m.name()
	if deep > 0 && choice == 1 {
		e.Kind = api.ECall
		m.some(func() {
			e.Args = append(e.Args, m.expr(deep-1))
		})
	}
	return e
}

func (m *maker) body(deep int) api.Expr {
	if deep == 0 || m.r.Intn(3) > 0 {
		return m.held(deep)
	}
	e := api.Expr{Kind: api.EOp, Name: "?", Args: []api.Expr{m.held(deep - 1)}}
	e.At = m.put("?")
	e.Args = append(e.Args, m.body(deep-1))
	m.put(":")
	e.Args = append(e.Args, m.body(deep-1))
	return e
}

func (m *maker) held(deep int) api.Expr {
	if deep == 0 || m.r.Intn(3) > 0 {
		return m.sum(deep)
	}
	return m.operator(deep, m.sum, m.sum, "<", "==")
}

func (m *maker) sum(deep int) api.Expr {
	if deep == 0 || m.r.Intn(2) == 0 {
		return m.product(deep)
	}
	return m.operator(deep, m.sum, m.product, "+", "-")
}

func (m *maker) product(deep int) api.Expr {
	if deep == 0 || m.r.Intn(2) == 0 {
		return m.one(deep)
	}
	return m.operator(deep, m.product, m.one, "*", "/", "%")
}

func (m *maker) operator(deep int, first, second func(int) api.Expr, signs ...string) api.Expr {
	e := api.Expr{Kind: api.EOp, Name: signs[m.r.Intn(len(signs))], Args: []api.Expr{first(deep - 1)}}
	e.At = m.put(e.Name)
	e.Args = append(e.Args, second(deep-1))
	return e
}

func (m *maker) one(deep int) api.Expr {
	switch choice := m.r.Intn(6); {
	case deep > 0 && choice == 0:
		at := m.put("-")
		return api.Expr{Kind: api.EOp, Name: "-", Args: []api.Expr{{Kind: api.EConst, At: at}, m.one(deep - 1)}, At: at}
	case choice == 1:
		m.put("(")
		e := m.body(deep)
		m.put(")")
		return e
	case choice == 2:
		at := len(m.pieces)
		return api.Expr{Kind: api.EConst, N: m.number(0, 1000000000), At: at}
	}
	e := api.Expr{Kind: api.EParam}
	e.Name, e.At = m.name()
	return e
}

// text is the tokens with random gaps between, and where each of them begins.
func (m *maker) text() (string, []int) {
	gaps := []string{" ", " ", " ", "\n", "\t ", " # fby ~\n"}
	var b strings.Builder
	at := make([]int, len(m.pieces))
	for i, piece := range m.pieces {
		at[i] = b.Len()
		b.WriteString(piece)
		b.WriteString(gaps[m.r.Intn(len(gaps))])
	}
	return b.String(), at
}

// placed is the program with places in bytes instead of tokens.
func placed(p api.Program, at []int) api.Program {
	for i := range p.Nodes {
		p.Nodes[i].At = at[p.Nodes[i].At]
		p.Nodes[i].Body = placedExpr(p.Nodes[i].Body, at)
	}
	for i := range p.Inputs {
		p.Inputs[i].At = at[p.Inputs[i].At]
	}
	for i := range p.Flows {
		p.Flows[i].At = at[p.Flows[i].At]
		p.Flows[i].E = placedExpr(p.Flows[i].E, at)
	}
	for i := range p.Outputs {
		p.Outputs[i].At = at[p.Outputs[i].At]
	}
	return p
}

func placedExpr(e api.Expr, at []int) api.Expr {
	e.At = at[e.At]
	for i := range e.Args {
		e.Args[i] = placedExpr(e.Args[i], at)
	}
	return e
}

// unplaced shows a program without its places.
func unplaced(p api.Program) string {
	s := showProgram(p)
	var b strings.Builder
	for {
		ahead, behind, ok := strings.Cut(s, "@")
		b.WriteString(ahead)
		if !ok {
			return b.String()
		}
		s = strings.TrimLeft(behind, "0123456789")
	}
}

// P4.1 to P4.3: what is made at random is read as it was made, written, and read again.
func TestMadeIsReadAndWritten(t *testing.T) {
	r := rand.New(rand.NewSource(44))
	reread := 0
	for range 6000 {
		m := maker{r: r}
		for range r.Intn(6) {
			m.declaration(r.Intn(6))
		}
		s, at := m.text()
		if len(s) > api.MaxText {
			continue
		}
		p, errAt, err := syntax.Parse(s)
		if want := showProgram(placed(m.p, at)); err != api.OK || showProgram(p) != want {
			t.Fatalf("%q is (at %d, %v)\n%s\nshould be\n%s", s, errAt, err, showProgram(p), want)
		}
		printed := syntax.Print(p)
		if len(printed) > api.MaxText {
			continue
		}
		q, errAt, err := syntax.Parse(printed)
		if err != api.OK || unplaced(q) != unplaced(p) {
			t.Fatalf("%q is written %q, and that read (at %d, %v)\n%s\nshould be\n%s", s, printed, errAt, err, unplaced(q), unplaced(p))
		}
		if again := syntax.Print(q); again != printed {
			t.Fatalf("%q is written %q", printed, again)
		}
		reread++
	}
	if reread < 3000 {
		t.Error(reread)
	}
}

// P4.2: of an EXPR no pair of brackets can be left out; a call's are no pair of these.
func TestAsFewBracketsAsMayBe(t *testing.T) {
	r := rand.New(rand.NewSource(444))
	for range 2000 {
		m := maker{r: r}
		m.put("flow", "f", "=")
		m.expr(5)
		m.put(";")
		s, _ := m.text()
		if len(s) > api.MaxText {
			continue
		}
		printed := syntax.Print(read(t, s))
		for open, c := range printed {
			if c != '(' || printed[open-1] != ' ' && printed[open-1] != '(' {
				continue
			}
			end := open + closing(printed[open:])
			less := printed[:open] + printed[open+1:end] + printed[end+1:]
			if p, _, err := syntax.Parse(less); err == api.OK && unplaced(p) == unplaced(read(t, printed)) {
				t.Fatalf("%q needs no more than %q", printed, less)
			}
		}
	}
}

// closing is where the bracket stands that closes the first one.
func closing(s string) int {
	open := 0
	for i, c := range s {
		switch c {
		case '(':
			open++
		case ')':
			open--
		}
		if open == 0 {
			return i
		}
	}
	return -1
}

// R1, P4.3: all texts come to an end, and what is read can be written and read again.
func FuzzParse(f *testing.F) {
	f.Add("node n(a, b) budget 2 { a < b ? a - (b * 2) : -1 }\ninput x period 10;\nflow f = -3 fby n(x *^ 2, (tail x) /^ 3 ~> 1/2);\noutput o = f deadline 20;\n")
	f.Add("flow f = n(a,b,c,d,e,f,2::g) # r\n~")
	f.Fuzz(func(t *testing.T, s string) {
		p, at, err := syntax.Parse(s)
		if at < 0 || at > len(s) {
			t.Fatal(at, err)
		}
		if err != api.OK {
			return
		}
		printed := syntax.Print(p)
		q, _, err := syntax.Parse(printed)
		if len(printed) <= api.MaxText && (err != api.OK || unplaced(q) != unplaced(p)) {
			t.Fatalf("%q, %q", printed, syntax.Print(q))
		}
	})
}
