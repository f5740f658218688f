package order_test

import (
	"math"
	"reflect"
	"slices"
	"testing"

	"horarium/api"
	"horarium/check"
	"horarium/flat"
	"horarium/order"
	"horarium/syntax"
)

func over(n int64) api.Op     { return api.Op{Kind: api.EOver, N: n} }
func under(n int64) api.Op    { return api.Op{Kind: api.EUnder, N: n} }
func shift(n, d int64) api.Op { return api.Op{Kind: api.EShift, N: n, D: d} }
func fby(n int64) api.Op      { return api.Op{Kind: api.EFby, N: n} }
func tail() api.Op            { return api.Op{Kind: api.ETail} }
func cons(n int64) api.Op     { return api.Op{Kind: api.ECons, N: n} }

func reads(src int, l ...api.Op) api.Arg { return api.Arg{Src: src, Ops: l} }
func task(l ...api.Arg) api.Task         { return api.Task{Args: l} }

// flatOf has so many inputs, and the tasks, and nothing else.
func flatOf(inputs int, tasks ...api.Task) api.Flat {
	return api.Flat{Inputs: make([]api.Clock, inputs), Tasks: tasks}
}

// hanging is tasks of no inputs that read at once what the lists say.
func hanging(l ...[]int) api.Flat {
	var f api.Flat
	for _, sources := range l {
		var t api.Task
		for _, source := range sources {
			t.Args = append(t.Args, reads(source))
		}
		f.Tasks = append(f.Tasks, t)
	}
	return f
}

func on(l ...int) []int { return l }

func hangsAre(t *testing.T, f api.Flat, want ...[]int) {
	t.Helper()
	if len(want) != len(f.Tasks) {
		t.Fatal("of each task")
	}
	for i, l := range want {
		if got := order.Hangs(f, i); !slices.Equal(got, l) {
			t.Errorf("%v: the task %d hangs on %v; should on %v", f.Tasks, i, got, l)
		}
	}
}

func orderIs(t *testing.T, f api.Flat, want ...int) {
	t.Helper()
	if l, err := order.Of(f); err != api.OK || !slices.Equal(l, want) {
		t.Errorf("%v: %v, %v; should be %v", f.Tasks, l, err, want)
	}
}

func isCycle(t *testing.T, f api.Flat) {
	t.Helper()
	if l, err := order.Of(f); err != api.ErrCycle || len(l) != 0 {
		t.Errorf("%v: %v, %v; should be a cycle", f.Tasks, l, err)
	}
}

// made is the text's program, with nodes m and n of one and two parameters, and an input x, made flat.
func made(t *testing.T, s string) api.Flat {
	t.Helper()
	s = "node m(a) budget 3 { a } node n(a, b) budget 2 { a + b } input x period 10; " + s
	p, at, err := syntax.Parse(s)
	if err != api.OK {
		t.Fatalf("%q: at %d, %v", s, at, err)
	}
	l, at, err := check.Check(p)
	if err != api.OK {
		t.Fatalf("%q: at %d, %v", s, at, err)
	}
	f, at, err := flat.Make(p, l)
	if err != api.OK {
		t.Fatalf("%q: at %d, %v", s, at, err)
	}
	return f
}

// P9.1: the chapter's and the document's examples.
func TestExamples(t *testing.T) {
	f := made(t, "flow f = n(x, 0 fby f);")
	hangsAre(t, f, nil)
	orderIs(t, f, 0)
	f = made(t, "flow f = n(x, f);")
	hangsAre(t, f, on(0))
	isCycle(t, f)
	f = made(t, "flow f = n(m(x), x);")
	hangsAre(t, f, on(1), nil)
	orderIs(t, f, 1, 0)
}

// P9.1: through flows, operators, and calls that stand in others.
func TestProgramsAsWritten(t *testing.T) {
	f := made(t, "flow a = n(b, c); flow b = m(d); flow c = 1 fby m(b); flow d = n(m(x), x);")
	hangsAre(t, f, on(1), on(3), on(1), on(4), nil)
	orderIs(t, f, 4, 3, 1, 0, 2)
	f = made(t, "flow a = m(b ~> 1/2); flow b = m(c ~> 0/2); flow c = m(x); flow d = n(b, 2 :: tail b *^ 2 /^ 2);")
	hangsAre(t, f, nil, on(2), nil, on(1))
	orderIs(t, f, 0, 2, 1, 3)
	// One more round through the same is later, the other one isn't.
	isCycle(t, made(t, "flow a = n(x, b); flow b = m(c); flow c = m(a);"))
	orderIs(t, made(t, "flow a = n(x, b); flow b = 0 fby m(c); flow c = m(a);"), 0, 2, 1)
	isCycle(t, made(t, "flow a = n(x, 0 :: tail a);"))
	orderIs(t, made(t, "flow a = n(x, 0 fby a *^ 2 /^ 2);"), 0)
}

// P9.1: rising, and each once, in whatever order they are read.
func TestHangs(t *testing.T) {
	f := flatOf(2,
		task(reads(5), reads(3), reads(5), reads(0), reads(4), reads(3)),
		task(reads(0), reads(1)),
		task(),
		task(reads(3), reads(2), reads(3)),
		task(reads(6)),
		task(reads(1), reads(7)),
	)
	hangsAre(t, f, on(1, 2, 3), nil, nil, on(0, 1), on(4), on(5))
	// Without inputs the first source is a task.
	hangsAre(t, flatOf(0, task(reads(1), reads(0)), task(reads(0))), on(0, 1), on(0))
	// Sources are numbers, and the tenth stands behind the second.
	many := flatOf(1, make([]api.Task, 12)...)
	many.Tasks[0] = task(reads(12), reads(3), reads(11), reads(2), reads(12))
	if got := order.Hangs(many, 0); !slices.Equal(got, on(1, 2, 10, 11)) {
		t.Error(got)
	}
}

// P9.1: on what is read later a task doesn't hang, but on what is read at once, too, beside it.
func TestHangsOnWhatIsNotLater(t *testing.T) {
	for _, x := range []struct {
		ops   []api.Op
		hangs bool
	}{
		{nil, true},
		{[]api.Op{}, true},
		{[]api.Op{over(2)}, true},
		{[]api.Op{under(3)}, true},
		{[]api.Op{tail()}, true},
		{[]api.Op{cons(4)}, true},
		{[]api.Op{shift(0, 5)}, true},
		{[]api.Op{tail(), cons(1), over(2), under(2), shift(0, 1)}, true},
		{[]api.Op{fby(0)}, false},
		{[]api.Op{fby(7)}, false},
		{[]api.Op{shift(1, 5)}, false},
		{[]api.Op{shift(100, 1)}, false},
		{[]api.Op{over(2), fby(1), under(2)}, false},
		{[]api.Op{shift(1, 2), tail()}, false},
		{[]api.Op{tail(), fby(1)}, false},
	} {
		one := flatOf(1, task(reads(2, x.ops...)), task(reads(0)))
		own := flatOf(1, task(reads(0, x.ops...), reads(1, x.ops...)))
		beside := flatOf(1, task(reads(2, fby(1)), reads(2, x.ops...)), task(reads(0)))
		if !x.hangs {
			hangsAre(t, one, nil, nil)
			orderIs(t, one, 0, 1)
			hangsAre(t, own, nil)
			orderIs(t, own, 0)
			hangsAre(t, beside, nil, nil)
			continue
		}
		hangsAre(t, one, on(1), nil)
		orderIs(t, one, 1, 0)
		hangsAre(t, own, on(0))
		isCycle(t, own)
		hangsAre(t, beside, on(1), nil)
	}
}

// P9.1: none of no task.
func TestHangsOfNoTask(t *testing.T) {
	f := flatOf(2, task(reads(3)), task(reads(2)))
	for _, i := range []int{-1, -2, 2, 3, 4, math.MinInt, math.MaxInt} {
		if l := order.Hangs(f, i); len(l) != 0 {
			t.Error(i, l)
		}
		if l := order.Hangs(api.Flat{}, i); len(l) != 0 {
			t.Error(i, l)
		}
	}
	if l := order.Hangs(api.Flat{}, 0); len(l) != 0 {
		t.Error(l)
	}
}

// P9.1: each time the least one that can be next, not the one that could be first.
func TestOrder(t *testing.T) {
	orderIs(t, api.Flat{})
	orderIs(t, flatOf(3))
	orderIs(t, hanging(nil), 0)
	orderIs(t, hanging(nil, nil, nil), 0, 1, 2)
	orderIs(t, hanging(on(1), on(2), on(3), nil), 3, 2, 1, 0)
	orderIs(t, hanging(nil, on(0), on(1), on(2)), 0, 1, 2, 3)
	// What becomes ready comes ahead of greater ones that were so long ago, and behind lesser ones.
	orderIs(t, hanging(on(2), nil, nil, nil), 1, 2, 0, 3)
	orderIs(t, hanging(on(4), nil, on(1), nil, on(1)), 1, 2, 3, 4, 0)
	orderIs(t, hanging(on(3), on(3), nil, nil, on(0), nil), 2, 3, 0, 1, 4, 5)
	orderIs(t, hanging(on(5), on(4), on(4), nil, nil, on(3)), 3, 4, 1, 2, 5, 0)
	// The last one of those on which a task hangs counts.
	orderIs(t, hanging(on(1, 3, 5), nil, nil, nil, nil, nil, nil), 1, 2, 3, 4, 5, 0, 6)
	orderIs(t, hanging(on(5, 3, 1, 5, 5), on(5), on(0), on(1), nil, nil), 4, 5, 1, 3, 0, 2)
	// What is read twice is waited for once.
	orderIs(t, hanging(on(1, 1, 1), on(2, 2), nil), 2, 1, 0)
}

// P9.1: a task that hangs on itself, or on others that hang on it, leaves no order, whatever stands beside it.
func TestCycles(t *testing.T) {
	for _, f := range []api.Flat{
		hanging(on(0)),
		hanging(on(1), on(0)),
		hanging(on(1), on(2), on(0)),
		hanging(nil, on(1)),
		hanging(nil, nil, on(0, 1, 2)),
		hanging(on(0), nil, nil),
		// What hangs on a circle is in none.
		hanging(nil, on(0, 2), on(3), on(2)),
		hanging(on(1), on(2), on(3), on(4), on(1)),
		// A circle that hangs on what is in the order.
		hanging(nil, on(0), on(1, 3), on(1, 2), on(0)),
		// Two circles.
		hanging(on(1), on(0), on(3), on(2), nil),
	} {
		isCycle(t, f)
	}
}

// P9.1: one operator that is later opens a circle.
func TestOpenedCircles(t *testing.T) {
	for i := range 5 {
		f := hanging(on(1), on(2), on(3), on(4), on(0))
		isCycle(t, f)
		f.Tasks[i].Args[0].Ops = []api.Op{tail(), fby(3)}
		var want []int
		for j := range 5 {
			want = append(want, (i+5-j)%5)
		}
		orderIs(t, f, want...)
	}
}

// P9.1: nothing counts but how many inputs and tasks there are, and the sources and operators of the arguments.
func TestNothingElseCounts(t *testing.T) {
	f := flatOf(1, task(reads(3)), task(reads(0), reads(1, fby(1))), task(reads(2), reads(2)))
	wrong := api.Clock{Period: -3, Phase: math.MaxInt64}
	f.Inputs[0] = wrong
	f.Nodes = []api.Node{{Name: "n", Params: []string{"a", "a"}, Budget: -1}}
	for i := range f.Tasks {
		f.Tasks[i].Node, f.Tasks[i].Clock = 7-9*i, wrong
	}
	f.Tells = []api.Tell{{Clock: wrong, Arg: reads(1, api.Op{Kind: 99}), Deadline: -1}, {Arg: reads(77)}, {Arg: reads(-1)}}
	hangsAre(t, f, on(2), nil, on(1))
	orderIs(t, f, 1, 2, 0)
	// A task is numbered behind all inputs, however many there are.
	for inputs := range 50 {
		f = flatOf(inputs, task(reads(inputs+2)), task(), task(reads(inputs+1)))
		if inputs > 0 {
			f.Tasks[1] = task(reads(inputs-1), reads(0))
		}
		hangsAre(t, f, on(2), nil, on(1))
		orderIs(t, f, 1, 2, 0)
	}
}

// P9.1: of operators, too, no more counts than what layer 7 asks of them, however many there are.
func TestWrongOperators(t *testing.T) {
	var many []api.Op
	for range 10 * api.MaxOps {
		many = append(many, tail(), over(0), under(-1), shift(0, 0), api.Op{Kind: 99, N: 5}, api.Op{})
	}
	f := flatOf(0, task(reads(1, many...)), task())
	hangsAre(t, f, on(1), nil)
	orderIs(t, f, 1, 0)
	f.Tasks[0].Args[0].Ops[100] = shift(1, 0)
	hangsAre(t, f, nil, nil)
	orderIs(t, f, 0, 1)
}

// P9.1: a flat program that isn't right may have any number of tasks; the order of many is found in time.
func TestManyTasks(t *testing.T) {
	const many = 100000
	backward, wide, circle := flatOf(1, make([]api.Task, many)...), flatOf(1, make([]api.Task, many)...), flatOf(1, make([]api.Task, many)...)
	for i := range many {
		backward.Tasks[i] = task(reads(1+min(i+1, many-1), over(1)))
		// All hang on the last one.
		wide.Tasks[i] = task(reads(0), reads(many), reads(many))
		circle.Tasks[i] = task(reads(1 + (i+1)%many))
	}
	isLong(t, circle, nil)
	backward.Tasks[many-1], wide.Tasks[many-1] = task(), task()
	rising, falling := make([]int, many), make([]int, many)
	for i := range many {
		rising[i], falling[many-1-i] = i, i
	}
	isLong(t, backward, falling)
	isLong(t, wide, append(on(many-1), rising[:many-1]...))
	isLong(t, flatOf(0, make([]api.Task, many)...), rising)
}

// isLong asks for an order that is too long to be told; for a cycle, if it is none.
func isLong(t *testing.T, f api.Flat, want []int) {
	t.Helper()
	l, err := order.Of(f)
	if !slices.Equal(l, want) || (err == api.ErrCycle) != (want == nil) || (err == api.OK) != (want != nil) {
		t.Error(len(l), err)
	}
}

// P9.1: a task may have any number of arguments.
func TestManyArguments(t *testing.T) {
	f := flatOf(3, make([]api.Task, 40)...)
	var want []int
	for i := range 100000 {
		f.Tasks[39].Args = append(f.Tasks[39].Args, reads(41-i%39))
	}
	for i := range 39 {
		want = append(want, i)
	}
	if l := order.Hangs(f, 39); !slices.Equal(l, want) {
		t.Error(l)
	}
	orderIs(t, f, append(want, 39)...)
}

// P9.1
func TestPlaces(t *testing.T) {
	for _, x := range []struct{ l, want []int }{
		{nil, nil},
		{on(), nil},
		{on(0), on(0)},
		{on(1, 0), on(1, 0)},
		{on(1, 2, 0), on(2, 0, 1)},
		{on(2, 0, 1), on(1, 2, 0)},
		{on(3, 1, 4, 0, 2), on(3, 1, 4, 0, 2)},
		{on(4, 3, 0, 2, 1), on(2, 4, 3, 1, 0)},
	} {
		if got := order.Places(x.l); !slices.Equal(got, x.want) {
			t.Errorf("%v: %v; should be %v", x.l, got, x.want)
		}
	}
}

// P9.1: the places of the order that Of tells.
func TestPlacesOfAnOrder(t *testing.T) {
	l, _ := order.Of(hanging(on(4), nil, on(1), nil, on(1)))
	if got := order.Places(l); !slices.Equal(got, on(4, 0, 1, 2, 3)) {
		t.Error(l, got)
	}
}

// R1: what is no order has places or not, and that's all.
func TestPlacesOfWhatIsNoOrder(t *testing.T) {
	for _, l := range [][]int{{-1}, {1}, {0, 0}, {math.MinInt, math.MaxInt}, {2, -1, 5, 0, 0}, {1 << 40}} {
		if got := order.Places(l); len(got) != len(l) {
			t.Error(l, got)
		}
	}
	// What is no task's number takes nothing from the others.
	if got := order.Places(on(9, 2, -1, 1)); !slices.Equal(got, on(0, 3, 1, 0)) {
		t.Error(got)
	}
}

// R1: sources that aren't there are no tasks, and nothing hangs on them.
func TestEndsOfWrongSources(t *testing.T) {
	for _, src := range []int{math.MinInt, math.MinInt + 1, -2, -1, 4, 5, 100, math.MaxInt} {
		f := flatOf(2, task(reads(src), reads(3), reads(src)), task(reads(src)))
		hangsAre(t, f, on(1), nil)
		orderIs(t, f, 1, 0)
		f.Inputs = nil
		order.Hangs(f, 0)
		order.Of(f)
	}
}

// R5: what is handed in is left as it is, its spare room too, and what is answered is new memory.
func TestLeavesWhatIsHandedIn(t *testing.T) {
	build := func() api.Flat {
		f := flatOf(1, task(reads(3), reads(2, tail(), cons(3)), reads(3)), task(reads(0), reads(1, fby(1), tail())), task(reads(2)), task(reads(1)))
		f.Tasks[1].Args[1].Ops = f.Tasks[1].Args[1].Ops[:1]
		f.Tasks[0].Args = f.Tasks[0].Args[:2]
		f.Tasks = f.Tasks[:3]
		return f
	}
	whole := func(f api.Flat) []any {
		return []any{f.Inputs, f.Tasks[:4], f.Tasks[0].Args[:3], f.Tasks[1].Args[1].Ops[:2]}
	}
	f := build()
	l, err := order.Of(f)
	hangs := order.Hangs(f, 0)
	if err != api.OK || !slices.Equal(l, on(1, 2, 0)) || !slices.Equal(hangs, on(1, 2)) {
		t.Fatal(l, err, hangs)
	}
	places := order.Places(l[:3:3])
	if !reflect.DeepEqual(whole(f), whole(build())) || !slices.Equal(l, on(1, 2, 0)) {
		t.Error("changed", f, l)
	}
	for _, answer := range [][]int{l, hangs, places} {
		for i := range answer {
			answer[i] = 77
		}
	}
	again, _ := order.Of(f)
	if !reflect.DeepEqual(whole(f), whole(build())) || !slices.Equal(again, on(1, 2, 0)) || !slices.Equal(order.Hangs(f, 0), on(1, 2)) {
		t.Error("kept", f, again)
	}
	spare := []int{1, 0, 5}
	if got := order.Places(spare[:2]); !slices.Equal(got, on(1, 0)) || !slices.Equal(spare, on(1, 0, 5)) {
		t.Error(got, spare)
	}
	// An order that is its own places is answered anew, too.
	same := on(0, 1, 2)
	order.Places(same)[0] = 77
	if !slices.Equal(same, on(0, 1, 2)) {
		t.Error(same)
	}
}
