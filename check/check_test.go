package check_test

import (
	"reflect"
	"slices"
	"strconv"
	"strings"
	"testing"
	"time"

	"horarium/api"
	"horarium/check"
	"horarium/syntax"
)

// head has nodes of one to three parameters, and inputs of three clocks: x and w come together.
const head = "node m(a) budget 1 { a } node n(a, b) budget 1 { a + b } node k(a, b, c) budget 1 { a ? b : c } " +
	"input x period 10; input y period 20 phase 10; input w period 10 phase 0; "

func readable(s string) (api.Program, bool) {
	p, _, err := syntax.Parse(s)
	return p, err == api.OK
}

func read(t *testing.T, s string) api.Program {
	t.Helper()
	p, at, err := syntax.Parse(s)
	if err != api.OK {
		t.Fatalf("%q: at %d, %v; should be read", s, at, err)
	}
	return p
}

// unmark is the text without its !, and where that stood.
func unmark(s string) (string, int) {
	ahead, behind, marked := strings.Cut(s, "!")
	if !marked {
		return s, 0
	}
	return ahead + behind, len(ahead)
}

// namesOf asks for the error of a program's names at the ! in its text; and for the same of Check, if there is one.
func namesOf(t *testing.T, s string, want api.Errno) {
	t.Helper()
	s, wantAt := unmark(s)
	p := read(t, s)
	if at, err := check.Names(p); at != wantAt || err != want {
		t.Errorf("%q: at %d, %v; should be at %d, %v", s, at, err, wantAt, want)
	}
	if want == api.OK {
		return
	}
	if l, at, err := check.Check(p); len(l) != 0 || at != wantAt || err != want {
		t.Errorf("%q: Check: %v at %d, %v; should be at %d, %v", s, l, at, err, wantAt, want)
	}
}

// clocksOf asks for the error of a program's clocks at the ! in its text, of Clocks and of Check.
func clocksOf(t *testing.T, s string, want api.Errno) {
	t.Helper()
	s, wantAt := unmark(s)
	p := read(t, s)
	for _, call := range []func(api.Program) ([]api.Clock, int, api.Errno){check.Clocks, check.Check} {
		if l, at, err := call(p); len(l) != 0 || at != wantAt || err != want {
			t.Errorf("%q: %v at %d, %v; should be at %d, %v", s, l, at, err, wantAt, want)
		}
	}
}

// clocksAre asks for clocks, of Clocks and of Check, told as periods and phases: "10+0 20+5".
func clocksAre(t *testing.T, s string, want string) {
	t.Helper()
	p := read(t, s)
	for _, call := range []func(api.Program) ([]api.Clock, int, api.Errno){check.Clocks, check.Check} {
		l, at, err := call(p)
		if got := show(l); got != want || at != 0 || err != api.OK {
			t.Errorf("%q: %s, at %d, %v; should be %s", s, got, at, err, want)
		}
	}
}

func show(l []api.Clock) string {
	var pieces []string
	for _, c := range l {
		pieces = append(pieces, strconv.FormatInt(c.Period, 10)+"+"+strconv.FormatInt(c.Phase, 10))
	}
	return strings.Join(pieces, " ")
}

// P6.1
func TestNamesThatAreWell(t *testing.T) {
	for _, s := range []string{
		"",
		head,
		head + "flow f = x; output o = f deadline 3;",
		head + "flow f = g; flow g = f;", // a cycle is none of the names'
		head + "flow f = f;",
		head + "flow f = n(x, y);",
		head + "flow f = k(x, m(g), 3 fby n(f, tail y)) *^ 2; flow g = 1 :: (x /^ 3 ~> 1/2);",
		// One name may be a node's, a source's, an output's and a parameter's.
		"node a(a) budget 1 { a } input x period 1; flow a = a(x); output a = a deadline 1; output x = a deadline 1;",
		"node n(n, m) budget 1 { n + m } node m(n) budget 1 { n } input n period 1; flow m = n(n, m(n)); output n = m deadline 1;",
		// Kinds of declarations may stand in any order.
		"output o = f deadline 3; flow f = m(g); flow g = x; input x period 3; node m(a) budget 1 { 1 }",
		"node n(a, b, c, d, e, f) budget 1 { f * (e - d) ? -c : b == a } input x period 3; flow f = n(x, x, x, x, x, x);",
		"node n(a, b) budget 1 { 7 }",
		"flow f = f; output o = f deadline 1; output p = f deadline 1;",
	} {
		namesOf(t, s, api.OK)
	}
}

// P6.1, of nodes.
func TestNamesOfNodes(t *testing.T) {
	for _, s := range []string{
		"node n(a) budget 1 { a } node !n(a) budget 1 { a }",
		"node n(a) budget 1 { a } node m(a) budget 1 { a } node !n(b, c) budget 2 { b }",
		"node n(a) budget 1 { a } node !n(b) budget 1 { b } node n(c) budget 1 { c }",
		"node !n(a, a) budget 1 { a }",
		"node !n(a, b, c, b) budget 1 { a }",
		"node n(a) budget 1 { !c }",
		"node n(a) budget 1 { !aa }",
		"node aa(aa) budget 1 { !a }",
		"node n(a) budget 1 { !n }",
		"node n(a) budget 1 { a } node m(b) budget 1 { !a }", // another one's parameters don't count
		"node n(a) budget 1 { a } node m(b) budget 1 { b + !n }",
		"input x period 1; node n(a) budget 1 { !x }",
		"node n(a, b) budget 1 { a + b * (!c - d) }",
		"node n(a, b) budget 1 { a + !d * (c - d) }",
		"node n(a, b) budget 1 { !c ? d : e }",
		"node n(a, b) budget 1 { a ? !d : e }",
		"node n(a, b) budget 1 { a ? b : !e }",
		"node n(a, b) budget 1 { a == 3 ? -!e : e }",
		// Of one node: its name, its parameters, its body.
		"node n(a) budget 1 { a } node !n(b, b) budget 1 { c }",
		"node n(a) budget 1 { a } node !n(b) budget 1 { c }",
		"node !n(b, b) budget 1 { c }",
		// Of several: the first one.
		"node n(a) budget 1 { !b } node n(a) budget 1 { a }",
		"node !n(a, a) budget 1 { a } node n(a) budget 1 { a }",
		"node n(a) budget 1 { !b } node m(a, a) budget 1 { a }",
		"node n(a) budget 1 { !b } node m(a) budget 1 { c }",
		"node !n(a, a) budget 1 { a } node m(a) budget 1 { c }",
	} {
		namesOf(t, s, api.ErrName)
	}
}

// P6.1, of inputs and flows.
func TestNamesOfSources(t *testing.T) {
	for _, s := range []string{
		"input x period 1; input !x period 1;",
		"input x period 1; input y period 1; input !x period 2 phase 2; input y period 1;",
		"flow f = f; flow !f = f;",
		"flow f = f; flow g = f; flow !f = g; flow g = g;",
		"input x period 1; flow !x = x;",
		"flow !x = x; input x period 1;", // inputs are asked first, wherever they stand
		"flow !x = x; flow f = f; input x period 1; flow f = f;",
		"flow f = f; flow f = f; input x period 1; input !x period 1;",
		"flow x = x; input x period 1; input !x period 1;",
	} {
		namesOf(t, s, api.ErrName)
	}
}

// P6.1, of flows' expressions.
func TestNamesOfExpressions(t *testing.T) {
	for s, want := range map[string]api.Errno{
		"flow f = !z;":                                  api.ErrName,
		"flow f = !m;":                                  api.ErrName, // a node is no source
		"flow f = !o; output o = f deadline 1;":         api.ErrName,
		"flow f = !a;":                                  api.ErrName,
		"flow f = m(!z);":                               api.ErrName,
		"flow f = n(x, !z);":                            api.ErrName,
		"flow f = n(!z, v);":                            api.ErrName,
		"flow f = !z *^ 2;":                             api.ErrName,
		"flow f = !z /^ 2;":                             api.ErrName,
		"flow f = !z ~> 1/2;":                           api.ErrName,
		"flow f = 1 fby !z;":                            api.ErrName,
		"flow f = 1 :: !z;":                             api.ErrName,
		"flow f = tail !z;":                             api.ErrName,
		"flow f = 1 fby tail m(2 :: (!z) ~> 1/2) *^ 3;": api.ErrName,
		"flow f = !q(x);":                               api.ErrName,
		"flow f = !x(x);":                               api.ErrName, // a source is no node
		"flow f = !f(x);":                               api.ErrName,
		"flow f = !q(z);":                               api.ErrName,
		"flow f = m(!q(z));":                            api.ErrName,
		"flow f = n(m(!q(z)), v);":                      api.ErrName,
		"flow f = n(m(x), !q(z));":                      api.ErrName,
		"flow f = !n(x);":                               api.ErrArity,
		"flow f = !n(x, x, x);":                         api.ErrArity,
		"flow f = !m(x, x);":                            api.ErrArity,
		"flow f = !k(x, x);":                            api.ErrArity,
		"flow f = !m(x, x, x, x, x, x);":                api.ErrArity,
		"flow f = !n(z);":                               api.ErrArity,
		"flow f = 1 fby !n(z);":                         api.ErrArity,
		"flow f = m(!n(q(z)));":                         api.ErrArity,
		"flow f = n(!m(x, z), q(x));":                   api.ErrArity,
		"flow f = n(!q(x), m(x, x));":                   api.ErrName,
		"flow f = n(x, !z); flow g = m(x, x);":          api.ErrName,
		"flow f = !m(x, x); flow g = z;":                api.ErrArity,
		"flow g = f; flow f = g; flow h = !v;":          api.ErrName,
	} {
		namesOf(t, head+s, want)
	}
}

// P6.1, of outputs.
func TestNamesOfOutputs(t *testing.T) {
	for _, s := range []string{
		"output !o = f deadline 1;",
		"output !o = x deadline 1;", // an input is no flow
		"output !o = m deadline 1;",
		"output !o = o deadline 1;",
		"flow f = x; output !o = g deadline 1;",
		"flow f = x; output o = f deadline 1; output !o = f deadline 1;",
		"flow f = x; output o = f deadline 1; output p = f deadline 1; output !o = f deadline 2;",
		"flow f = x; output o = f deadline 1; output !p = g deadline 1; output o = f deadline 1;",
		"flow f = x; output o = f deadline 1; output !o = f deadline 1; output p = x deadline 1;",
		"flow f = x; output o = f deadline 1; output !o = x deadline 1;",
	} {
		namesOf(t, head+s, api.ErrName)
	}
}

// P6.1: nodes are asked first, then the names of inputs, those of flows, flows' expressions, and outputs, wherever they stand.
func TestNamesInTheirOrder(t *testing.T) {
	for s, want := range map[string]api.Errno{
		"output o = z deadline 1; flow f = z; flow f = x; input x period 1; input x period 1; node n(a) budget 1 { !b }": api.ErrName,
		"output o = z deadline 1; flow f = z; flow f = x; input x period 1; input !x period 1; node n(a) budget 1 { a }": api.ErrName,
		"output o = z deadline 1; flow f = z; flow !f = x; input x period 1; node n(a) budget 1 { a }":                   api.ErrName,
		"output o = z deadline 1; flow f = !z; flow g = x; input x period 1; node n(a) budget 1 { a }":                   api.ErrName,
		"output !o = z deadline 1; flow f = f; flow g = x; input x period 1; node n(a) budget 1 { a }":                   api.ErrName,
		"output o = z deadline 1; flow f = z; flow g = x; flow !g = x; input x period 1;":                                api.ErrName,
		"output o = z deadline 1; flow f = !n(x, x); input x period 1; node n(a) budget 1 { a }":                         api.ErrArity,
	} {
		namesOf(t, s, want)
	}
}

// P6.2, P6.3
func TestClocks(t *testing.T) {
	for s, want := range map[string]string{
		"":                        "",
		"flow f = x;":             "10+0",
		"flow f = y;":             "20+10",
		"flow f = y; flow g = x;": "20+10 10+0",
		"flow f = g; flow g = y;": "20+10 20+10",
		"flow f = g; flow g = h; flow h = i; flow i = y;": "20+10 20+10 20+10 20+10",
		"flow f = x *^ 5;":                           "2+0",
		"flow f = x *^ 10;":                          "1+0",
		"flow f = y *^ 2;":                           "10+10",
		"flow f = x /^ 3;":                           "30+0",
		"flow f = y /^ 100;":                         "2000+10",
		"flow f = y ~> 1/2;":                         "20+20",
		"flow f = x ~> 0/1;":                         "10+0",
		"flow f = y ~> 3/20;":                        "20+13",
		"flow f = -7 fby y;":                         "20+10",
		"flow f = tail y;":                           "20+30",
		"flow f = 4 :: tail y;":                      "20+10",
		"flow f = 4 :: x ~> 1/1;":                    "10+0",
		"flow f = 1 fby tail (tail x) /^ 2 *^ 4;":    "5+15",
		"flow f = m(x);":                             "10+0",
		"flow f = m(m(m(y)));":                       "20+10",
		"flow f = n(x, w);":                          "10+0",
		"flow f = k(x ~> 1/1, y *^ 2, tail w) /^ 2;": "20+10",
		"flow f = n(x, 0 fby f);":                    "10+0",
		"flow f = n(0 fby f, x);":                    "10+0",
		"flow f = n(f, x);":                          "10+0", // what hangs on itself at once is a matter of layer 9
		"flow f = n(m(f), m(m(y)));":                 "20+10",
		"flow f = 1 fby n(f, y);":                    "20+10",
		"flow f = k(g, h, x); flow g = 1 fby f; flow h = n(f, g);":       "10+0 10+0 10+0",
		"flow f = m(g) /^ 2; flow g = x ~> 1/2;":                         "20+5 10+5",
		"flow f = n(g *^ 2, h); flow g = y; flow h = tail x;":            "10+10 20+10 10+10",
		"flow f = n(g, x /^ 5); flow g = f *^ 2 /^ 2;":                   "50+0 50+0",
		"flow f = m(g); flow g = x; output o = f deadline 3;":            "10+0 10+0",
		"flow f = n(n(n(x, f), n(f, w)), n(m(f), m(w)));":                "10+0",
		"flow a = n(b, c); flow b = n(c, d); flow c = m(d); flow d = y;": "20+10 20+10 20+10 20+10",
		"flow x1 = x *^ 2; flow x2 = x1 *^ 5; flow x3 = x2 /^ 7 ~> 2/7;": "5+0 1+0 7+2",
	} {
		clocksAre(t, head+s, want)
	}
	clocksAre(t, "flow f = x; input x period 1000 phase 1000;", "1000+1000")
	clocksAre(t, "flow f = x; input x period 1;", "1+0")
	clocksAre(t, "flow f = x /^ 2 ~> 1/2; input x period 1000 phase 1000;", "2000+2000")
}

// P6.2: Apply's error, at the operator that it is of.
func TestClocksThatCantBe(t *testing.T) {
	for s, want := range map[string]api.Errno{
		"flow f = x !*^ 3;":                     api.ErrClock,
		"flow f = x !*^ 100;":                   api.ErrClock,
		"flow f = x *^ 10 !*^ 2;":               api.ErrClock,
		"flow f = x !~> 1/3;":                   api.ErrClock,
		"flow f = !1 :: x;":                     api.ErrClock,
		"flow f = !1 :: y;":                     api.ErrClock,
		"flow f = !-1 :: (tail x) /^ 2;":        api.ErrClock,
		"flow f = x /^ 100 !/^ 100;":            api.ErrRange,
		"flow f = x /^ 100 /^ 2 !/^ 2;":         api.ErrRange,
		"flow f = y ~> 99/1 !~> 1/1;":           api.ErrRange,
		"flow f = !tail y ~> 99/1;":             api.ErrRange,
		"flow f = !tail tail y ~> 98/1;":        api.ErrRange,
		"flow f = 3 fby tail m(x !*^ 3) *^ 7;":  api.ErrClock, // inside ahead of outside: without it nothing is known
		"flow f = x !*^ 3 *^ 7;":                api.ErrClock,
		"flow f = g *^ 2; flow g = x !*^ 3;":    api.ErrClock,
		"flow f = n(f, x !*^ 3);":               api.ErrClock,
		"flow f = n(x !*^ 3, y);":               api.ErrClock,
		"flow f = n(x /^ 100 !/^ 100, x *^ 3);": api.ErrRange,
		"flow f = n(g !*^ 3, f); flow g = x;":   api.ErrClock,
		"flow f = m(x) !*^ 3;":                  api.ErrClock,
		"flow f = f; flow g = x !*^ 3;":         api.ErrClock, // ahead of cycles
		"flow f = n(x, y); flow g = x !*^ 3;":   api.ErrClock, // and of calls
	} {
		clocksOf(t, head+s, want)
	}
}

// P6.2: errors of Apply come in the order in which clocks are found: round by round, and what is found counts at once.
func TestClocksAreFoundRoundByRound(t *testing.T) {
	for s, want := range map[string]api.Errno{
		"flow f = x !*^ 3; flow g = x /^ 100 /^ 100;":                                                 api.ErrClock,
		"flow f = x /^ 100 !/^ 100; flow g = x *^ 3;":                                                 api.ErrRange,
		"flow f = g *^ 3; flow g = x; flow h = x /^ 100 !/^ 100;":                                     api.ErrRange, // h is met in the first round, f in the second
		"flow f = x; flow g = f !*^ 3; flow h = x /^ 100 /^ 100;":                                     api.ErrClock, // g is met in the first round
		"flow f = g *^ 3; flow g = x; flow h = g; flow i = h /^ 100 !/^ 100;":                         api.ErrRange,
		"flow f = g !*^ 3; flow g = x; flow h = i /^ 100 /^ 100; flow i = j; flow j = x;":             api.ErrClock,
		"flow f = g *^ 3; flow g = h; flow h = x; flow i = j /^ 100 !/^ 100; flow j = h;":             api.ErrRange,
		"flow f = g !*^ 3; flow g = h; flow h = x; flow i = j /^ 100 /^ 100; flow j = k; flow k = g;": api.ErrClock,
	} {
		clocksOf(t, head+s, want)
	}
}

// P6.2: a call's clock is that of the first argument that is known at the time. Which one that was is told by the operator: a period of 20 has four parts, one of 10 has not.
func TestTheFirstKnownArgument(t *testing.T) {
	for _, s := range []string{
		"flow f = !n(y, x); flow h = f *^ 4;",
		"flow f = n(x, y); flow h = f !*^ 4;",
		"flow f = !n(g, y); flow g = x; flow h = f *^ 4;", // g isn't known yet
		"flow g = x; flow f = n(g, y); flow h = f !*^ 4;",
		"flow g = x; flow f = !n(y, g); flow h = f *^ 4;",
		"flow f = !n(h, y); flow h = f *^ 4;",
		"flow f = !k(g, y, x); flow g = x; flow h = f *^ 4;",
		"flow f = k(g, x, y); flow g = y; flow h = f !*^ 4;",
		"flow f = k(m(g), !n(1 fby g, y), x); flow g = x; flow h = f *^ 4;",
		"flow f = k(g, n(g, x), y); flow g = y; flow h = f !*^ 4;",
		"flow f = n(g, g); flow g = n(f, y); flow h = !n(x, g); flow i = f *^ 4;",
	} {
		clocksOf(t, head+s, api.ErrClock)
	}
}

// P6.2: what is wrong only in an argument that no clock was found by is told where it stands, when the call is asked.
func TestOperatorsThatNoClockWasFoundBy(t *testing.T) {
	for s, want := range map[string]api.Errno{
		"flow f = n(x, x !*^ 3);":                            api.ErrClock,
		"flow f = n(x, x /^ 100 !/^ 100);":                   api.ErrRange,
		"flow f = n(f !*^ 3, x);":                            api.ErrClock,
		"flow f = n(x, m(m(!1 :: y)));":                      api.ErrClock,
		"flow f = m(n(x, x /^ 100 !/^ 100)) *^ 2;":           api.ErrRange,
		"flow f = n(x, n(w, x /^ 100 !/^ 100));":             api.ErrRange,
		"flow f = n(x, g /^ 100 !/^ 100); flow g = x;":       api.ErrRange,
		"flow !g = g; flow f = n(x, x /^ 100 /^ 100);":       api.ErrCycle,
		"flow f = n(x, x /^ 100 /^ 100); flow g = x !*^ 3;":  api.ErrClock,
		"flow f = n(x, x /^ 100 !/^ 100); flow g = n(x, y);": api.ErrRange,
		"flow f = !n(x, y); flow g = n(x, x /^ 100 /^ 100);": api.ErrClock,
		"flow f = !n(x, n(y, x /^ 100 /^ 100));":             api.ErrClock,
	} {
		clocksOf(t, head+s, want)
	}
}

// P6.2
func TestCycles(t *testing.T) {
	for _, s := range []string{
		"flow !f = f;",
		"flow !f = g; flow g = f;",
		"flow f = x; flow !g = h; flow h = m(g);",
		"flow !f = 1 fby f;",
		"flow !f = m(tail f);",
		"flow !f = n(f, 1 fby g); flow g = f *^ 3;",
		"flow !f = g; flow g = g; flow h = x;",
		"flow h = x; flow !f = n(g, g); flow g = k(f, g, f);",
		"flow h = n(x, y); flow !f = f;", // ahead of calls
	} {
		clocksOf(t, head+s, api.ErrCycle)
	}
}

// P6.2: calls whose arguments don't come together, those of flows in order, outside ahead of inside, from the left.
func TestCallsOfTwoClocks(t *testing.T) {
	for _, s := range []string{
		"flow f = !n(x, y);",
		"flow f = !n(y, x);",
		"flow f = !n(x, tail w);",
		"flow f = !n(x, x /^ 2);",
		"flow f = !n(x *^ 2, x);",
		"flow f = !n(x, f *^ 2);",
		"flow f = !n(x, (tail y) *^ 2);",
		"flow f = !k(x, x, y);",
		"flow f = !k(x, y, x);",
		"flow f = !k(y, x, x);",
		"flow f = m(!n(x, y));",
		"flow f = 3 fby tail !n(x, y) *^ 2;",
		"flow f = !n(n(x, y), y);",
		"flow f = n(!n(x, y), w);",
		"flow f = n(x, !n(w, y));",
		"flow f = n(!n(x, y), n(x, y));",
		"flow f = n(n(x, m(w)), !n(x, y));",
		"flow f = !n(n(x, y), n(y, x));",
		"flow f = n(x, w); flow g = !n(x, y); flow h = n(x, y);",
		"flow f = 1 fby (tail !n(g, x)); flow g = y;",
		"flow f = m(g); flow g = n(f, x *^ 2); flow h = n(f, g); flow i = !n(y, x); flow j = n(x, y);",
		"flow f = n(g, x); flow g = !n(f, y);",
		"flow f = !n(g, x); flow g = f *^ 2;",
	} {
		clocksOf(t, head+s, api.ErrClock)
	}
}

// P6.2: a flow's clock is its expression's. It always is where names are well, so that this is asked of two flows of one name, whose clock is the first one's.
func TestFlowsOfAnotherClock(t *testing.T) {
	s, at := unmark(head + "flow f = x; flow g = f; flow !f = y; flow g = y;")
	if l, got, err := check.Clocks(read(t, s)); len(l) != 0 || got != at || err != api.ErrClock {
		t.Error(l, got, err)
	}
}

// P6.2: Check asks all names ahead of any clock.
func TestCheckAsksNamesFirst(t *testing.T) {
	namesOf(t, head+"flow f = x *^ 3; flow g = f; flow h = h; output !o = x deadline 1;", api.ErrName)
	namesOf(t, head+"flow f = n(x, y); flow g = !n(x);", api.ErrArity)
}

func name(s string) api.Expr {
	return api.Expr{Kind: api.EName, Name: s}
}

func call(s string, args ...api.Expr) api.Expr {
	return api.Expr{Kind: api.ECall, Name: s, Args: args}
}

// program has an input x, nodes m and n, and these flows' expressions, of flows f0, f1, ..
func program(l ...api.Expr) api.Program {
	p := api.Program{
		Nodes: []api.Node{
			{Name: "m", Params: []string{"a"}, Budget: 1, Body: api.Expr{Kind: api.EParam, Name: "a"}},
			{Name: "n", Params: []string{"a", "b"}, Budget: 1, Body: api.Expr{Kind: api.EConst}},
		},
		Inputs: []api.Input{{Name: "x", Period: 10}},
	}
	for i, e := range l {
		p.Flows = append(p.Flows, api.Flow{Name: "f" + strconv.Itoa(i), E: e})
	}
	return p
}

// ends asks that all calls end, soon, and answer nothing beside an error.
func ends(t *testing.T, p api.Program) {
	t.Helper()
	begin := time.Now()
	check.Names(p)
	for _, call := range []func(api.Program) ([]api.Clock, int, api.Errno){check.Clocks, check.Check} {
		if l, at, err := call(p); err != api.OK && len(l) > 0 || err == api.OK && at != 0 {
			t.Error(l, at, err)
		}
	}
	if time.Since(begin) > 20*time.Second {
		t.Error(time.Since(begin))
	}
}

// refused asks that all calls end, soon, and answer an error.
func refused(t *testing.T, p api.Program) {
	t.Helper()
	ends(t, p)
	if _, err := check.Names(p); err == api.OK {
		t.Error("names are well")
	}
	if _, _, err := check.Clocks(p); err == api.OK {
		t.Error("clocks are found")
	}
}

// R1: expressions that hold themselves, are very deep, or share their parts: more than any text makes.
func TestEndsOfEndlessPrograms(t *testing.T) {
	for _, kind := range []int{api.ECall, api.EOver, api.EFby, api.EOp, 0} {
		round := api.Expr{Kind: kind, Name: "n", N: 1, D: 1, Args: []api.Expr{name("x"), name("f0")}}
		round.Args[1] = round
		wide := api.Expr{Kind: kind, Name: "n", N: 1, D: 1, Args: make([]api.Expr, 2)}
		wide.Args[0], wide.Args[1] = wide, wide
		deep, shared := name("x"), name("x")
		for range 1000000 {
			deep = api.Expr{Kind: kind, Name: "m", N: 1, D: 1, Args: []api.Expr{deep}}
		}
		for range 60 {
			shared = api.Expr{Kind: kind, Name: "n", N: 1, D: 1, Args: []api.Expr{shared, shared}}
		}
		for _, e := range []api.Expr{round, wide, deep, shared} {
			refused(t, program(e))
			refused(t, program(name("x"), call("m", e)))
			p := program(name("x"))
			p.Nodes[1].Body = e
			refused(t, p)
		}
	}
	p, sum := program(name("x")), api.Expr{Kind: api.EParam, Name: "a"}
	for range 16 {
		sum = api.Expr{Kind: api.EOp, Name: "+", Args: []api.Expr{sum, sum}}
	}
	p.Nodes[0].Body = sum
	refused(t, p)
}

// R1: what goes through all that a program may hold isn't slow.
func TestEndsOfGreatPrograms(t *testing.T) {
	var chain []api.Expr
	for i := range 3000 {
		chain = append(chain, name("f"+strconv.Itoa(i+1)))
	}
	ends(t, program(append(chain, name("x"))...))
	ends(t, program(append(chain, name("f0"))...))
	deep := name("x")
	for range 3900 {
		deep = call("n", deep, name("x"))
	}
	ends(t, program(deep))
	ends(t, program(make([]api.Expr, 100000)...))
	ends(t, api.Program{Nodes: make([]api.Node, 100000), Inputs: make([]api.Input, 100000), Outputs: make([]api.Output, 100000)})
}

// R1: kinds that there aren't, and what has too few arguments, or too many.
func TestEndsOfWrongPrograms(t *testing.T) {
	ends(t, api.Program{})
	ends(t, api.Program{Nodes: make([]api.Node, 1), Inputs: make([]api.Input, 1), Flows: make([]api.Flow, 1), Outputs: make([]api.Output, 1)})
	for kind := -2; kind <= 15; kind++ {
		for many := range 4 {
			for _, s := range []string{"x", "m", "n", "f0", "", "?"} {
				for _, arg := range []api.Expr{name("x"), name("f0"), name("f1"), name("z"), {}, {Kind: api.EOver}, {Kind: kind, Name: s}, call("n")} {
					e := api.Expr{Kind: kind, Name: s, N: int64(many), D: -1, Args: slices.Repeat([]api.Expr{arg}, many)}
					p := program(e, call("n", name("x"), e))
					p.Nodes[0].Body = e
					ends(t, p)
					p.Inputs = []api.Input{{Name: "x", Period: int64(many) - 1, Phase: -1}}
					ends(t, p)
					p.Flows[0].Name = p.Flows[1].Name
					ends(t, p)
					p.Flows[1].Name = "x"
					ends(t, p)
				}
			}
		}
	}
}

// P6.1: a program with nearly as many expressions as a text of MaxText bytes can make is asked to its end.
func TestTheFullestProgram(t *testing.T) {
	sum := "-----------a"
	for range 7 {
		sum = "(" + sum + "+" + sum + ")"
	}
	full := "node m(a)budget 1{" + sum + "}node n(a)budget 1{" + sum
	if many := strings.Count(full, "-")*2 + strings.Count(full, "+"); many < api.MaxText*3/2-200 {
		t.Error(many)
	}
	namesOf(t, full+"}", api.OK)
	namesOf(t, full+"+!b}", api.ErrName)
	namesOf(t, full+"}flow f=!x;", api.ErrName)
	clocksAre(t, full+"}input x period 9;flow f=x;", "9+0")
}

// P6.2: expressions as deep, and declarations as many, as may be.
func TestTheDeepestProgram(t *testing.T) {
	ahead, behind := "flow f = "+strings.Repeat("n(x, ", api.MaxDepth-2), strings.Repeat(")", api.MaxDepth-2)+";"
	clocksAre(t, head+ahead+"1 fby w"+behind, "10+0")
	clocksOf(t, head+ahead+"!1 :: x"+behind, api.ErrClock)
	namesOf(t, head+ahead+"1 fby !z"+behind, api.ErrName)
	chain, want := "input x period 7; flow f0 = x;", "7+0"
	for i := 1; i < api.MaxDecls-1; i++ {
		chain = "flow f" + strconv.Itoa(i) + " = f" + strconv.Itoa(i-1) + "; " + chain
		want += " 7+0"
	}
	clocksAre(t, chain, want)
}

// R5: what is handed in is left as it is, and what is answered is new.
func TestLeavesWhatIsHandedIn(t *testing.T) {
	s := head + "flow f = n(0 fby g, h *^ 2); flow g = m(x); flow h = x /^ 2; output o = g deadline 3;"
	p := read(t, s)
	p.Flows = append(p.Flows, api.Flow{Name: "spare"})[:3]
	first, _, err := check.Check(p)
	if err != api.OK || show(first) != "10+0 10+0 20+0" {
		t.Fatal(first, err)
	}
	for i := range first {
		first[i] = api.Clock{Period: 77}
	}
	_ = append(first, api.Clock{Period: 78})
	if second, _, _ := check.Check(p); show(second) != "10+0 10+0 20+0" {
		t.Error(second)
	}
	if q := read(t, s); !reflect.DeepEqual(p, q) || p.Flows[:4][3].Name != "spare" {
		t.Error("changed", p)
	}
}
