package tool_test

import (
	"errors"
	"fmt"
	"math"
	"strconv"
	"strings"
	"testing"

	"horarium/api"
	"horarium/sched"
	"horarium/tool"
)

// head is nodes of one, two and six parameters, and inputs.
const head = "node m(a) budget 3 { a } node n(a, b) budget 2 { a + b } node s(a, b, c, d, e, f) budget 1 { a } input x period 10; input y period 20 phase 40; "

// allErrors is all of api's errors, and some numbers that are none's.
var allErrors = []api.Errno{-1, api.OK, api.ErrSyntax, api.ErrDepth, api.ErrName, api.ErrArity, api.ErrClock, api.ErrCycle, api.ErrRange, api.ErrLimit, api.ErrMiss, api.ErrForm, api.ErrOverrun, api.ErrArg, 13, 99}

// compiled is what is made of the text.
func compiled(t *testing.T, s string) *tool.Made {
	t.Helper()
	m, err := tool.Compile(s)
	if err != nil || m == nil {
		t.Fatal(s, m, err)
	}
	return m
}

// faultOf is the fault in what is answered of the text, which must be refused.
func faultOf(t *testing.T, s string) *tool.Fault {
	t.Helper()
	m, err := tool.Compile(s)
	var f *tool.Fault
	if m != nil || err == nil || !errors.As(err, &f) || f == nil {
		t.Fatal(s, m, err)
	}
	for _, other := range allErrors {
		if errors.Is(err, other) != (other == f.Err) {
			t.Errorf("%s\n%v: %v", s, err, other)
		}
	}
	return f
}

// faultIs asks of a text in which @, which is of no token, marks the place; where there is none, that is 0.
func faultIs(t *testing.T, marked string, want api.Errno) {
	t.Helper()
	at := max(0, strings.Index(marked, "@"))
	s := strings.Replace(marked, "@", "", 1)
	if f := faultOf(t, s); f.Err != want || f.At != at {
		t.Errorf("%s\n%v; should be %v at %d", s, f, want, at)
	}
}

// again is the text, so many times.
func again(s string, many int) string {
	return strings.Repeat(s, many)
}

// calls is so many flows, of a call each, of the node and the input.
func calls(many int, node, input string) string {
	var s strings.Builder
	for i := range many {
		s.WriteString("flow f" + strconv.Itoa(i) + " = " + node + "(" + input + "); ")
	}
	return s.String()
}

// P17.1: the chapter's example.
func TestExample(t *testing.T) {
	if f := faultOf(t, "flow f = g;"); *f != (tool.Fault{At: 9, Err: api.ErrName}) || f.Error() != "name at 9" {
		t.Error(f)
	}
}

// P17.1: all that is made, of one text.
func TestMade(t *testing.T) {
	m := compiled(t, "node n(a, b) budget 2 { a + b } input x period 10; flow f = n(x, 0 fby f); output o = f deadline 5;")
	every := api.Clock{Period: 10}
	body := api.Expr{Kind: api.EOp, Name: "+", At: 26, Args: []api.Expr{{Kind: api.EParam, Name: "a", At: 24}, {Kind: api.EParam, Name: "b", At: 28}}}
	want := tool.Made{
		Flat: api.Flat{
			Inputs: []api.Clock{every},
			Nodes:  []api.Node{{Name: "n", Params: []string{"a", "b"}, Budget: 2, Body: body, At: 5}},
			Tasks:  []api.Task{{Clock: every, Args: []api.Arg{{}, {Src: 1, Ops: []api.Op{{Kind: api.EFby}}}}}},
			Tells:  []api.Tell{{Clock: every, Arg: api.Arg{Src: 1}, Deadline: 5}},
		},
		Plan:  sched.Plan{S: 20, H: 10, Slots: []api.Slot{{Start: 0}, {Job: 1, Start: 10}, {Job: 2, Start: 20}}},
		Cells: []int{1},
		Table: []byte("HT\x01\x14\x0a\x03\x00\x00\x00\x00\x01\x08\x00\x02\x08"),
	}
	// Lists of no elements may be nil or empty: they print alike.
	if fmt.Sprint(*m) != fmt.Sprint(want) {
		t.Errorf("%v; should be\n%v", *m, want)
	}
}

// P17.1: a text without calls has a table, too.
func TestNoTasks(t *testing.T) {
	for _, s := range []string{"", " \t\n", "# nothing", "input x period 10;", "node n(a) budget 2 { a }", "input x period 7 phase 3; flow f = x; "} {
		m := compiled(t, s)
		if len(m.Flat.Tasks) != 0 || m.Plan.S != 0 || m.Plan.H != 1 || len(m.Plan.Slots) != 0 || len(m.Cells) != 0 || string(m.Table) != "HT\x01\x00\x01\x00" {
			t.Error(s, *m)
		}
	}
	// What is told counts for S and H all the same.
	if m := compiled(t, "input x period 10 phase 3; flow f = x /^ 2; output o = f deadline 4;"); m.Plan.S != 37 || m.Plan.H != 20 || string(m.Table) != "HT\x01\x25\x14\x00" {
		t.Error(*m)
	}
}

// P17.1: faults of what is read, with their places.
func TestFaultsOfReading(t *testing.T) {
	for marked, want := range map[string]api.Errno{
		"flow@":                                  api.ErrSyntax,
		"flow f = x@":                            api.ErrSyntax,
		"@foo":                                   api.ErrSyntax,
		"flow f = n(x,@);":                       api.ErrSyntax,
		"flow @tail = x;":                        api.ErrSyntax,
		"flow f = x@$;":                          api.ErrSyntax,
		"flow f = " + again("tail ", 25) + "@":   api.ErrSyntax,
		"flow f = " + again("(", 3000) + "@":     api.ErrSyntax,
		"flow f = x *^ @1000000001;":             api.ErrRange,
		"flow f = x *^ @101;":                    api.ErrRange,
		"flow f = x /^ @0;":                      api.ErrRange,
		"flow f = x ~> 1/@0;":                    api.ErrRange,
		"node k(a) budget @0 { a }":              api.ErrRange,
		"node k(a) budget @1001 { a }":           api.ErrRange,
		"input z period @1001;":                  api.ErrRange,
		"input z period 9 phase @1001;":          api.ErrRange,
		"output o = f deadline @1001;":           api.ErrRange,
		"node k(a, b, c, d, e, f, @g) budget 1":  api.ErrLimit,
		"flow f = s(x, x, x, x, x, x, @x);":      api.ErrLimit,
		again("flow f = x; ", 35) + "@flow":      api.ErrLimit,
		"flow f = @" + again("tail ", 20) + "x;": api.ErrDepth,
		"node k(a) budget 1 { " + again("-", 3) + "@-" + again("-", 19) + "a }": api.ErrDepth,
	} {
		faultIs(t, head+marked, want)
	}
	long := "# " + again("x", api.MaxText-2)
	compiled(t, long)
	faultIs(t, long+"x", api.ErrLimit)
}

// P17.1: faults of names and clocks, with their places.
func TestFaultsOfChecking(t *testing.T) {
	for marked, want := range map[string]api.Errno{
		"node @m(a) budget 1 { a }":                        api.ErrName,
		"node @k(a, a) budget 1 { a }":                     api.ErrName,
		"node k(a) budget 1 { a + @b }":                    api.ErrName,
		"input @x period 3;":                               api.ErrName,
		"flow @x = y;":                                     api.ErrName,
		"flow f = m(@z);":                                  api.ErrName,
		"flow f = @k(x);":                                  api.ErrName,
		"output @o = x deadline 3;":                        api.ErrName,
		"flow f = @n(x);":                                  api.ErrArity,
		"flow f = m(@m(x, x));":                            api.ErrArity,
		"flow f = x @*^ 3;":                                api.ErrClock,
		"flow f = x @~> 1/3;":                              api.ErrClock,
		"flow f = @1 :: x;":                                api.ErrClock,
		"flow f = @-1 :: x;":                               api.ErrClock,
		"flow f = @n(x, x *^ 2);":                          api.ErrClock,
		"flow f = m(@n(x, y));":                            api.ErrClock,
		"flow f = x /^ 100 @/^ 100;":                       api.ErrRange,
		"flow f = x /^ 100 @~> 3/1;":                       api.ErrRange,
		"flow @f = f;":                                     api.ErrCycle,
		"flow @f = g; flow g = 1 fby f;":                   api.ErrCycle,
		"flow @f = tail m(f); output o = f deadline 1000;": api.ErrCycle,
	} {
		faultIs(t, head+marked, want)
	}
}

// P17.1: faults of what is made flat, with their places, and what comes just up to the limits.
func TestFaultsOfMakingFlat(t *testing.T) {
	small := "node m(a) budget 1 { a } input x period 30; "
	if m := compiled(t, small+calls(30, "m", "x")); len(m.Flat.Tasks) != 30 || len(m.Plan.Slots) != 30 || len(m.Cells) != 30 {
		t.Error(*m)
	}
	faultIs(t, small+calls(30, "m", "x")+"flow g = @m(x);", api.ErrLimit)
	faultIs(t, small+calls(29, "m", "x")+"flow g = m(@m(x));", api.ErrLimit)
	ten := "flow a = x" + again(" *^ 1", 10) + "; flow b = a" + again(" *^ 1", 10) + "; "
	if m := compiled(t, small+ten+"output o = b deadline 5;"); len(m.Flat.Tells) != 1 || len(m.Flat.Tells[0].Arg.Ops) != 20 {
		t.Error(*m)
	}
	faultIs(t, small+ten+"flow @c = b *^ 1;", api.ErrLimit)
	faultIs(t, small+ten+"flow @c = m(m(b *^ 1));", api.ErrLimit)
}

// P17.1: faults of orders and plans, which have no place.
func TestFaultsWithoutPlace(t *testing.T) {
	for s, want := range map[string]api.Errno{
		"flow f = n(x, f);":                             api.ErrCycle,
		"flow f = m(g); flow g = n(x, f *^ 2 /^ 2);":    api.ErrCycle,
		"flow f = n(y, tail (3 :: f));":                 api.ErrCycle,
		"flow f = n(x, x); output o = f deadline 1;":    api.ErrMiss,
		"flow f = m(m(m(m(x))));":                       api.ErrMiss,
		"flow f = m(x *^ 5);":                           api.ErrMiss,
		"flow f = m(m(m(x))); output o = f deadline 8;": api.ErrMiss,
		"input u period 1000; input v period 999; flow f = s(u, u, u, u, u, u); flow g = m(v);": api.ErrLimit,
	} {
		faultIs(t, head+s, want)
	}
	compiled(t, head+"flow f = m(m(m(x))); output o = f deadline 9;")
}

// P17.1: what comes just up to the limits of a plan has one; one more is a fault.
func TestLimitsOfPlans(t *testing.T) {
	for ok, beyond := range map[string]string{
		// S is 4000.
		"input u period 1000; flow f = k(u *^ 1 *^ 1);": "input u period 1000 phase 1; flow f = k(u *^ 1 *^ 1);",
		// The hyperperiod is 2000.
		"input u period 400; input v period 1000; flow f = k(u); flow g = k(v);": "input u period 401; input v period 1000; flow f = k(u); flow g = k(v);",
		// There are 4000 jobs.
		"input u period 1; input v period 1000; flow f = k(u); flow g = v; output o = g deadline 1000;": "input u period 1; input v period 1000 phase 1; flow f = k(u); flow g = v; output o = g deadline 1000;",
	} {
		compiled(t, "node k(a) budget 1 { a } "+ok)
		faultIs(t, "node k(a) budget 1 { a } "+beyond, api.ErrLimit)
	}
}

// P17.1: of a text that is wrong in several ways the first step's fault is told, wherever it stands.
func TestFirstFault(t *testing.T) {
	for _, s := range []struct {
		marked string
		want   api.Errno
	}{
		// Read ahead of names.
		{"flow f = g; flow@", api.ErrSyntax},
		{"flow f = m(x, x); flow g = @" + again("tail ", 20) + "x;", api.ErrDepth},
		// Names ahead of clocks.
		{"flow f = x *^ 3; flow g = @h;", api.ErrName},
		{"flow f = f; flow g = @m(x, x);", api.ErrArity},
		// Clocks ahead of what is made flat.
		{"flow f = m(m(m(m(x)))); " + calls(27, "m", "x") + "flow h = x @*^ 3;", api.ErrClock},
		{"flow f = x" + again(" *^ 1", 15) + "; flow g = f" + again(" *^ 1", 15) + "; flow @h = h;", api.ErrCycle},
		// What is made flat ahead of the order.
		{"flow f = n(x, f); " + calls(29, "m", "x") + "flow g = @m(x);", api.ErrLimit},
		{"flow f = n(x, f); flow g = x" + again(" *^ 1", 15) + "; flow @h = g" + again(" *^ 1", 15) + ";", api.ErrLimit},
		// The order ahead of the plan.
		{"flow f = n(x, f); flow g = m(m(m(m(x))));", api.ErrCycle},
		{"flow f = n(x, f); input u period 999; flow g = m(u);", api.ErrCycle},
		// No window ahead of a miss.
		{"flow f = m(m(m(m(x)))); input u period 999; flow g = m(u);", api.ErrLimit},
	} {
		faultIs(t, head+s.marked, s.want)
	}
}

// P17.1: what is answered of a text that is refused wraps the fault, and that the error.
func TestWrapped(t *testing.T) {
	_, err := tool.Compile("flow f = g;")
	fault, is := errors.Unwrap(err).(*tool.Fault)
	if !is || fault.At != 9 || errors.Unwrap(fault) != error(api.ErrName) || err.Error() != "name at 9" {
		t.Error(err)
	}
	// Another text's fault is another one.
	_, other := tool.Compile("flow f = g;")
	fault.At = 7
	if other.Error() != "name at 9" || errors.Is(err, other) {
		t.Error(err, other)
	}
}

// P17.1: a fault by itself.
func TestFault(t *testing.T) {
	for _, no := range allErrors {
		for _, at := range []int{0, 1, 9, 10, 4000, math.MaxInt, -1, math.MinInt} {
			f := &tool.Fault{At: at, Err: no}
			if f.Error() != fmt.Sprintf("%s at %d", no.Error(), at) {
				t.Error(f)
			}
			if f.Unwrap() != error(no) || !errors.Is(f, no) || errors.Is(f, no+1) {
				t.Error(f, f.Unwrap())
			}
			var found api.Errno
			if !errors.As(f, &found) || found != no || f.At != at {
				t.Error(f, found)
			}
		}
	}
	if f := (&tool.Fault{}); f.Error() != "no error at 0" {
		t.Error(f)
	}
	if f := (&tool.Fault{At: 60, Err: api.ErrArity}); f.Error() != "arity at 60" {
		t.Error(f)
	}
}

// P17.1: what is made is new memory, each time, and no two of its lists are one.
func TestNewMemory(t *testing.T) {
	s := head + "flow f = n(x, 0 fby f); flow g = n(1 fby f, 1 fby f); output o = g deadline 9; output p = g deadline 10;"
	a, b := compiled(t, s), compiled(t, s)
	before := fmt.Sprint(*b)
	ops := []*[]api.Op{&a.Flat.Tasks[0].Args[1].Ops, &a.Flat.Tasks[1].Args[0].Ops, &a.Flat.Tasks[1].Args[1].Ops}
	for i, l := range ops {
		for j, other := range ops {
			(*l)[0].N, (*other)[0].N = 5, 7
			if i != j && (*l)[0].N != 5 {
				t.Error(i, j)
			}
		}
	}
	a.Flat.Inputs[0].Period, a.Flat.Nodes[0].Params[0], a.Flat.Nodes[1].Body.Args[0].Name = 3, "z", "z"
	a.Flat.Tasks[0].Node, a.Flat.Tells[0].Deadline = 1, 8
	a.Plan.Slots[0].Start, a.Cells[0], a.Table[0] = 3, 9, 0
	if fmt.Sprint(*b) != before || a.Flat.Tells[1].Deadline != 10 {
		t.Error(*a, *b)
	}
}
