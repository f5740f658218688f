package flat_test

import (
	"reflect"
	"slices"
	"strconv"
	"strings"
	"testing"

	"horarium/api"
	"horarium/check"
	"horarium/flat"
	"horarium/syntax"
)

// head has nodes of one to three parameters, and three inputs; x and w come together.
const head = "node m(a) budget 1 { a } node n(a, b) budget 2 { a + b } node k(a, b, c) budget 3 { a ? b : c } " +
	"input x period 10; input y period 20 phase 40; input w period 10 phase 0; "

// read is the text's program, and its clocks, if it is well.
func read(t *testing.T, s string) (api.Program, []api.Clock) {
	t.Helper()
	p, at, err := syntax.Parse(s)
	if err != api.OK {
		t.Fatalf("%q: at %d, %v; should be read", s, at, err)
	}
	l, at, err := check.Check(p)
	if err != api.OK {
		t.Fatalf("%q: at %d, %v; should be well", s, at, err)
	}
	return p, l
}

// made is the text's program, made flat.
func made(t *testing.T, s string) api.Flat {
	t.Helper()
	f, at, err := flat.Make(read(t, s))
	if at != 0 || err != api.OK {
		t.Fatalf("%q: at %d, %v; should be made flat", s, at, err)
	}
	if !flat.Right(f) {
		t.Errorf("%q: %v isn't right", s, f)
	}
	return f
}

// refused asks for the error at the ! in the text of a program that is well.
func refused(t *testing.T, s string, want api.Errno) {
	t.Helper()
	ahead, behind, _ := strings.Cut(s, "!")
	f, at, err := flat.Make(read(t, ahead+behind))
	if !reflect.DeepEqual(f, api.Flat{}) || at != len(ahead) || err != want {
		t.Errorf("%q: %v, at %d, %v; should be at %d, %v", s, f, at, err, len(ahead), want)
	}
}

// showOp is an operator as it is written.
func showOp(o api.Op) string {
	n := strconv.FormatInt(o.N, 10)
	switch o.Kind {
	case api.EOver:
		return "*^" + n
	case api.EUnder:
		return "/^" + n
	case api.EShift:
		return "~>" + n + "/" + strconv.FormatInt(o.D, 10)
	case api.EFby:
		return n + "fby"
	case api.ETail:
		return "tail"
	case api.ECons:
		return n + "::"
	}
	return "?"
}

func showArg(a api.Arg) string {
	s := strconv.Itoa(a.Src)
	for _, o := range a.Ops {
		s += " " + showOp(o)
	}
	return s
}

func showClock(c api.Clock) string {
	return strconv.FormatInt(c.Period, 10) + "+" + strconv.FormatInt(c.Phase, 10)
}

// showTasks tells each task as its node's name, its clock, and its arguments, the innermost operator first: "n 10+0 (0, 3 1fby)".
func showTasks(f api.Flat) []string {
	var l []string
	for _, t := range f.Tasks {
		var args []string
		for _, a := range t.Args {
			args = append(args, showArg(a))
		}
		l = append(l, f.Nodes[t.Node].Name+" "+showClock(t.Clock)+" ("+strings.Join(args, ", ")+")")
	}
	return l
}

// showTells tells each tell as its argument, its clock and its deadline: "1 tail: 10+10, 4".
func showTells(f api.Flat) []string {
	var l []string
	for _, t := range f.Tells {
		l = append(l, showArg(t.Arg)+": "+showClock(t.Clock)+", "+strconv.FormatInt(t.Deadline, 10))
	}
	return l
}

// tasksAre asks for the tasks of a program of head and the text.
func tasksAre(t *testing.T, s string, want ...string) {
	t.Helper()
	if got := showTasks(made(t, head+s)); !slices.Equal(got, want) {
		t.Errorf("%q: %q; should be %q", s, got, want)
	}
}

// tellsAre asks for the tells of a program of head and the text.
func tellsAre(t *testing.T, s string, want ...string) {
	t.Helper()
	if got := showTells(made(t, head+s)); !slices.Equal(got, want) {
		t.Errorf("%q: %q; should be %q", s, got, want)
	}
}

// P8.1
func TestInputsAndNodesStandInTheirOrder(t *testing.T) {
	f := made(t, head+"flow f = m(x);")
	p, _ := read(t, head+"flow f = m(x);")
	if !slices.Equal(f.Inputs, []api.Clock{{Period: 10}, {Period: 20, Phase: 40}, {Period: 10}}) {
		t.Error(f.Inputs)
	}
	if !reflect.DeepEqual(f.Nodes, p.Nodes) {
		t.Error(f.Nodes)
	}
}

// P8.1
func TestOfLittle(t *testing.T) {
	for _, s := range []string{"", "input x period 7;", "node m(a) budget 1 { a }", "input x period 7; flow f = x;"} {
		f := made(t, s)
		if len(f.Tasks) > 0 || len(f.Tells) > 0 || len(f.Inputs) != strings.Count(s, "input") || len(f.Nodes) != strings.Count(s, "node") {
			t.Errorf("%q: %v", s, f)
		}
	}
}

// P8.1: of flows in order, outside ahead of inside, from the left.
func TestTasksAreNumbered(t *testing.T) {
	tasksAre(t, "flow f = n(x, 0 fby f);", "n 10+0 (0, 3 0fby)")
	tasksAre(t, "flow f = k(n(m(x), w), x, m(n(w, x)));",
		"k 10+0 (4, 0, 6)", "n 10+0 (5, 2)", "m 10+0 (0)", "m 10+0 (7)", "n 10+0 (2, 0)")
	tasksAre(t, "flow f = m(g); flow g = n(h, m(h)); flow h = m(x);",
		"m 10+0 (4)", "n 10+0 (6, 5)", "m 10+0 (6)", "m 10+0 (0)")
	// Through operators a call comes where it stands, too.
	tasksAre(t, "flow f = n(0 fby m(x), m(w)) *^ 2; flow g = tail m(m(y));",
		"n 10+0 (4 0fby, 5)", "m 10+0 (0)", "m 10+0 (2)", "m 20+40 (7)", "m 20+40 (1)")
	// Flows and inputs may stand in any order in the text.
	tasksAre(t, "output o = g deadline 3; flow g = m(z); input z period 30; flow f = m(x);", "m 30+0 (3)", "m 10+0 (0)")
}

// P8.1: calls that look alike are each a task of its own, and only the way to each tells which it is.
func TestCallsThatLookAlike(t *testing.T) {
	tasksAre(t, "flow f = n(m(x), m(x));", "n 10+0 (4, 5)", "m 10+0 (0)", "m 10+0 (0)")
	tasksAre(t, "flow f = m(x); flow g = m(x); flow h = n(f, g);", "m 10+0 (0)", "m 10+0 (0)", "n 10+0 (3, 4)")
	tasksAre(t, "flow f = k(n(m(x), m(x)), n(m(x), m(x)), m(m(x)));",
		"k 10+0 (4, 7, 10)", "n 10+0 (5, 6)", "m 10+0 (0)", "m 10+0 (0)", "n 10+0 (8, 9)", "m 10+0 (0)", "m 10+0 (0)", "m 10+0 (11)", "m 10+0 (0)")
	tasksAre(t, "flow f = n(0 fby m(x), 0 fby 0 fby m(x));", "n 10+0 (4 0fby, 5 0fby 0fby)", "m 10+0 (0)", "m 10+0 (0)")
	// The way to one is the beginning of the way to another one, in digits: the flows 1, and 11.
	many := ""
	for i := range 12 {
		many += "flow f" + strconv.Itoa(i) + " = m(m(x)); "
	}
	var want []string
	for i := range 12 {
		want = append(want, "m 10+0 ("+strconv.Itoa(3+2*i+1)+")", "m 10+0 (0)")
	}
	tasksAre(t, many, want...)
}

// P8.1: a flow that is read at several places has its calls once.
func TestFlowsAreReadThrough(t *testing.T) {
	tasksAre(t, "flow f = n(g, g); flow g = m(x);", "n 10+0 (4, 4)", "m 10+0 (0)")
	tasksAre(t, "flow f = m(g); flow g = h; flow h = w;", "m 10+0 (2)")
	tasksAre(t, "flow f = m(g); flow g = 1 fby h; flow h = 2 fby w;", "m 10+0 (2 2fby 1fby)")
	tasksAre(t, "flow f = n(x, 1 fby g); flow g = n(w, 2 fby f);", "n 10+0 (0, 4 1fby)", "n 10+0 (2, 3 2fby)")
	tasksAre(t, "flow f = tail g; flow g = n(y, 3 :: f);", "n 20+40 (1, 3 tail 3::)")
}

// P8.1: the innermost operator stands first, whether flows stand between or not.
func TestOperatorsOfArguments(t *testing.T) {
	tasksAre(t, "flow f = m(x *^ 2 /^ 3 ~> 2/3);", "m 15+10 (0 *^2 /^3 ~>2/3)")
	tasksAre(t, "flow f = m(5 fby 6 :: tail tail y);", "m 20+60 (1 tail tail 6:: 5fby)")
	tasksAre(t, "flow f = m(g ~> 1/2); flow g = -7 fby h *^ 5; flow h = tail x;", "m 2+11 (0 tail *^5 -7fby ~>1/2)")
	tasksAre(t, "flow f = m(tail m(x *^ 2) /^ 4);", "m 20+20 (4 /^4 tail)", "m 5+0 (0 *^2)")
	tasksAre(t, "flow f = m(x ~> 0/1);", "m 10+0 (0 ~>0/1)")
}

// P8.1: a task's clock is its first argument's.
func TestClocksOfTasks(t *testing.T) {
	tasksAre(t, "flow z = n(0 fby z, y);", "n 20+40 (3 0fby, 1)")
	tasksAre(t, "flow f = m(m(m(y) *^ 4) /^ 8);", "m 40+40 (4 /^8)", "m 5+40 (5 *^4)", "m 20+40 (1)")
	tasksAre(t, "flow f = n(x ~> 1/2, z); input z period 10 phase 5;",
		"n 10+5 (0 ~>1/2, 3)")
}

// P8.1: a tell has its flow's clock and argument, and its own deadline.
func TestTells(t *testing.T) {
	tellsAre(t, "flow f = m(x); output o = f deadline 9;", "3: 10+0, 9")
	tellsAre(t, "flow f = y; output b = f deadline 1000; output a = f deadline 1;", "1: 20+40, 1000", "1: 20+40, 1")
	tellsAre(t, "output o = g deadline 4; flow f = n(m(x), 0 fby f); flow g = tail f *^ 2; output a = f deadline 5;", "3 *^2 tail: 5+5, 4", "3: 10+0, 5")
	tellsAre(t, "flow f = 1 fby g; flow g = h /^ 3; flow h = w; output o = f deadline 7;", "2 /^3 1fby: 30+0, 7")
	tellsAre(t, "flow f = x;")
}

// chain is so many calls of m around the text's expression.
func chain(many int, s string) string {
	return strings.Repeat("m(", many) + s + strings.Repeat(")", many)
}

// P8.1: there are at most 30 tasks.
func TestTooManyTasks(t *testing.T) {
	whole := head + "flow a = " + chain(19, "x") + "; flow b = " + chain(11, "x") + "; "
	tasks := showTasks(made(t, whole))
	if len(tasks) != api.MaxTasks || tasks[18] != "m 10+0 (0)" || tasks[28] != "m 10+0 (32)" {
		t.Error(tasks)
	}
	refused(t, whole+"flow c = !m(x);", api.ErrLimit)
	refused(t, whole+"flow c = 3 fby !n(m(x), m(x)); flow d = m(x);", api.ErrLimit)
	refused(t, whole+"flow c = y; flow d = tail !m(c);", api.ErrLimit)
	// The 31st of the order counts, wherever it stands.
	refused(t, head+"flow a = "+chain(19, "x")+"; flow b = "+chain(10, "n(w, !m(x))")+";", api.ErrLimit)
	refused(t, head+"flow a = n("+chain(18, "x")+", "+chain(11, "!m(x)")+"); flow b = m(x);", api.ErrLimit)
	refused(t, head+"flow b = n("+chain(18, "x")+", k("+chain(10, "x")+", !m(m(m(x))), m(x))); flow a = m(x);", api.ErrLimit)
}

// fbys is so many fbys of the text's expression.
func fbys(many int, s string) string {
	return strings.Repeat("1 fby ", many) + s
}

// shifts is the text's expression, and so many operators that leave its clock as it is.
func shifts(many int, s string) string {
	return s + strings.Repeat(" *^ 2 /^ 2", many/2) + strings.Repeat(" ~> 0/3", many%2)
}

// P8.1: a flow's expression, and an argument in it, has at most 20 operators, through flows, up to a call.
func TestAsManyOperatorsAsMayBe(t *testing.T) {
	for _, s := range []string{
		"flow f = " + fbys(19, "x") + "; flow g = 1 fby f; flow h = n(w, g);",
		"flow f = " + shifts(17, "x") + "; flow g = m(1 fby tail tail f);",
		"flow g = n(m(" + fbys(10, "f") + "), " + fbys(10, "f") + "); flow f = " + shifts(10, "w") + ";",
		// A call begins anew.
		"flow f = " + fbys(18, "m(x)") + "; flow g = 1 fby 1 fby f; flow h = 1 fby m(g); flow i = " + fbys(19, "h") + ";",
		"flow f = " + fbys(10, "m("+fbys(8, "x")+")") + "; flow g = " + fbys(10, "f") + ";",
		// So does a task that reads itself, over and over.
		"flow f = n(x, " + fbys(18, "f") + "); flow g = 1 fby 1 fby f; flow h = m(" + fbys(18, "g") + ");",
	} {
		made(t, head+s)
	}
}

// P8.1
func TestTooManyOperators(t *testing.T) {
	for _, s := range []string{
		"flow f = " + fbys(19, "x") + "; flow g = 1 fby f; flow !h = 1 fby g;",
		"flow f = " + fbys(19, "x") + "; flow g = 1 fby f; flow !h = tail g;",
		"flow f = " + shifts(18, "x") + "; flow !g = m(1 fby tail tail f);",
		"flow f = " + shifts(18, "x") + "; flow g = f; flow !h = 2 :: 1 fby tail g;",
		// In each argument, in calls that stand in others, or in operators.
		"flow f = " + shifts(19, "x") + "; flow !g = k(x, w, 1 fby 1 fby f);",
		"flow f = " + shifts(19, "x") + "; flow !g = k(x, 1 fby 1 fby f, w);",
		"flow f = " + shifts(19, "x") + "; flow !g = k(1 fby 1 fby f, x, w);",
		"flow f = " + shifts(19, "x") + "; flow !g = n(m(x), n(x, n(w, 1 fby 1 fby f)));",
		"flow f = " + shifts(19, "x") + "; flow !g = 1 fby m(m(1 fby 1 fby f));",
		// Behind a call, and ahead of it.
		"flow f = " + fbys(18, "m(x)") + "; flow g = 1 fby 1 fby f; flow !h = m(1 fby g);",
		"flow f = " + fbys(10, "m("+fbys(8, "x")+")") + "; flow !g = " + fbys(11, "f") + ";",
		"flow f = n(x, " + fbys(18, "f") + "); flow g = 1 fby 1 fby f; flow !h = " + fbys(19, "g") + ";",
		// The flows' order counts, not that in which they read each other.
		"flow !h = 1 fby g; flow g = " + fbys(11, "f") + "; flow f = " + fbys(10, "x") + ";",
		"flow f = " + fbys(19, "x") + "; flow !b = 1 fby c; flow c = 1 fby a; flow a = 1 fby f;",
		"flow e = m(m(c)); flow !b = m(1 fby c); flow c = 1 fby a; flow a = 1 fby f; flow f = " + fbys(18, "x") + ";",
	} {
		refused(t, head+s, api.ErrLimit)
		refused(t, head+s+" flow zz = "+fbys(18, "m(x)")+"; flow z = 1 fby 1 fby 1 fby zz; output o = z deadline 3;", api.ErrLimit)
	}
}

// P8.1: whatever stands ahead of it, a call that is too many is told first.
func TestTasksAreAskedAheadOfOperators(t *testing.T) {
	s := head + "flow b = " + fbys(18, "x") + "; flow !a = " + fbys(3, "b") + "; flow c = " + chain(19, "x") + "; flow d = " + chain(11, "x") + ";"
	refused(t, s, api.ErrLimit)
	refused(t, strings.Replace(s, "!", "", 1)+" flow e = 1 fby !m(x);", api.ErrLimit)
}
