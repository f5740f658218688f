package stream_test

import (
	"math"
	"reflect"
	"slices"
	"strings"
	"testing"

	"horarium/api"
	"horarium/check"
	"horarium/flat"
	"horarium/order"
	"horarium/stream"
	"horarium/syntax"
)

// last is the last date up to which can be asked.
const last = 20000

// head is nodes of one to three parameters, and inputs: 0 is x, 1 is w, which come together, 2 is y, 3 is z.
const head = "node m(a) budget 1 { a * 10 } node n(a, b) budget 1 { a + b } node k(a, b, c) budget 1 { a * 100 + b * 10 + c } " +
	"input x period 10; input w period 10; input y period 20 phase 40; input z period 5 phase 10; "

func list(l ...int64) []int64             { return l }
func inputs(l ...[]int64) [][]int64       { return l }
func every(period, phase int64) api.Clock { return api.Clock{Period: period, Phase: phase} }
func op(kind int, n, d int64) api.Op      { return api.Op{Kind: kind, N: n, D: d} }

// made is the text's program, made flat.
func made(t *testing.T, s string) api.Flat {
	t.Helper()
	p, at, err := syntax.Parse(s)
	if err != api.OK {
		t.Fatalf("%q: at %d, %v", s, at, err)
	}
	l, at, err := check.Check(p)
	if err != api.OK {
		t.Fatalf("%q: at %d, %v", s, at, err)
	}
	f, at, err := flat.Make(p, l)
	if err != api.OK {
		t.Fatalf("%q: at %d, %v", s, at, err)
	}
	return f
}

// sameLists is whether both have the same lists; one without elements is the same, whether it is nil or not.
func sameLists(a, b [][]int64) bool {
	return slices.EqualFunc(a, b, slices.Equal)
}

func valuesOf(t *testing.T, f api.Flat, in [][]int64, until int64, want ...[]int64) {
	t.Helper()
	if got, err := stream.Values(f, in, until); err != api.OK || !sameLists(got, want) {
		t.Errorf("%v, up to %d: %v, %v; should be %v", in, until, got, err, want)
	}
}

// valuesAre asks for the values of the text's tasks, behind the head.
func valuesAre(t *testing.T, s string, in [][]int64, until int64, want ...[]int64) {
	t.Helper()
	f := made(t, head+s)
	got, err := stream.Values(f, in, until)
	if err != api.OK || !sameLists(got, want) {
		t.Errorf("%q, %v, up to %d: %v, %v; should be %v", s, in, until, got, err, want)
	}
}

func saysOf(t *testing.T, f api.Flat, in [][]int64, until int64, want ...stream.Said) {
	t.Helper()
	if got, err := stream.Says(f, in, until); err != api.OK || !slices.Equal(got, want) {
		t.Errorf("%v, up to %d: %v, %v; should be %v", in, until, got, err, want)
	}
}

// saysAre asks for what the text says, behind the head: of each its tell, job, date and value.
func saysAre(t *testing.T, s string, in [][]int64, until int64, want ...[4]int64) {
	t.Helper()
	var l []stream.Said
	for _, w := range want {
		l = append(l, stream.Said{Tell: int(w[0]), Job: w[1], Date: w[2], Value: w[3]})
	}
	got, err := stream.Says(made(t, head+s), in, until)
	if err != api.OK || !slices.Equal(got, l) {
		t.Errorf("%q, %v, up to %d: %v, %v; should be %v", s, in, until, got, err, l)
	}
}

func refused(t *testing.T, f api.Flat, until int64, want api.Errno) {
	t.Helper()
	if l, err := stream.Values(f, inputs(list(1, 2)), until); err != want || len(l) != 0 {
		t.Errorf("Values up to %d: %v, %v; should be %v", until, l, err, want)
	}
	if l, err := stream.Says(f, inputs(list(1, 2)), until); err != want || len(l) != 0 {
		t.Errorf("Says up to %d: %v, %v; should be %v", until, l, err, want)
	}
}

// P10.1
func TestJobs(t *testing.T) {
	for _, x := range []struct {
		c           api.Clock
		until, want int64
	}{
		{every(10, 0), 0, 0},
		{every(10, 0), 1, 1},
		{every(10, 0), 10, 1},
		{every(10, 0), 11, 2},
		{every(10, 0), 40, 4},
		{every(10, 0), 41, 5},
		{every(10, 3), 2, 0},
		{every(10, 3), 3, 0},
		{every(10, 3), 4, 1},
		{every(10, 3), 13, 1},
		{every(10, 3), 14, 2},
		{every(1, 0), 1, 1},
		{every(1, 0), last, last},
		{every(1, 5), 4, 0},
		{every(1, 5), 5, 0},
		{every(1, 5), 8, 3},
		{every(1, api.MaxHyper), api.MaxHyper, 0},
		{every(1, api.MaxHyper), api.MaxHyper + 1, 1},
		{every(1, api.MaxHyper), last, last - api.MaxHyper},
		{every(api.MaxHyper, 0), last, 10},
		{every(api.MaxHyper, 0), last - api.MaxHyper, 9},
		{every(api.MaxHyper, 0), last - api.MaxHyper + 1, 10},
		{every(api.MaxHyper, api.MaxHyper), last, 9},
		{every(7, 2), 19998, 2857},
		{every(7, 2), 19994, 2856},
		{every(7, 2), 19995, 2857},
	} {
		if got := stream.Jobs(x.c, x.until); got != x.want {
			t.Errorf("Jobs(%v, %d): %d; should be %d", x.c, x.until, got, x.want)
		}
	}
}

// P10.1: of a right clock, and until from 0 to 20000; else 0.
func TestJobsOfNone(t *testing.T) {
	for _, c := range []api.Clock{every(0, 0), every(-1, 0), every(-10, 5), every(api.MaxHyper+1, 0), every(1, -1), every(1, -100), every(1, api.MaxHyper+1), every(math.MinInt64, math.MinInt64), every(math.MaxInt64, 0), every(1, math.MinInt64), {}} {
		for _, until := range []int64{0, 1, 10, 10000, last, last + 1, -1, math.MaxInt64, math.MinInt64} {
			if got := stream.Jobs(c, until); got != 0 {
				t.Errorf("Jobs(%v, %d): %d", c, until, got)
			}
		}
	}
	for _, c := range []api.Clock{every(1, 0), every(10, 3), every(api.MaxHyper, api.MaxHyper)} {
		for _, until := range []int64{-1, -2, -10000, math.MinInt64, last + 1, last + 2, 1 << 40, math.MaxInt64 - 1, math.MaxInt64} {
			if got := stream.Jobs(c, until); got != 0 {
				t.Errorf("Jobs(%v, %d): %d", c, until, got)
			}
		}
	}
}

// P10.1: each date is counted by itself.
func TestJobsOneByOne(t *testing.T) {
	for _, c := range []api.Clock{every(1, 0), every(1, 4), every(2, 1), every(3, 0), every(7, 20), every(100, 99), every(1999, 2000), every(2000, 0)} {
		many, next := int64(0), c.Phase
		for until := range int64(last + 1) {
			if until > next {
				many++
				next += c.Period
			}
			if got := stream.Jobs(c, until); got != many {
				t.Fatalf("Jobs(%v, %d): %d; should be %d", c, until, got, many)
			}
		}
	}
}

// P10.1: the chapter's example, and the first one of the whole.
func TestExamples(t *testing.T) {
	valuesAre(t, "flow f = n(0 fby x, 0 fby w);", inputs(list(5, 6)), 20, list(0, 5))
	saysAre(t, "flow f = 0 fby x; output o = f deadline 1;", inputs(list(5, 6)), 11, [4]int64{0, 0, 1, 0}, [4]int64{0, 1, 11, 5})
	saysAre(t, "flow f = n(x, 0 fby f); output o = f deadline 4;", inputs(list(1, 2, 3)), 24, [4]int64{0, 0, 4, 1}, [4]int64{0, 1, 14, 3}, [4]int64{0, 2, 24, 6})
}

// P10.1: through each operator, and several.
func TestValuesThroughOperators(t *testing.T) {
	in := inputs(list(1, 2, 3, 4, 5), list(6, 7, 8, 9), list(11, 12, 13, 14), list(21, 22, 23, 24, 25))
	for _, x := range []struct {
		e     string
		until int64
		want  []int64
	}{
		{"x", 41, list(10, 20, 30, 40, 50)},
		{"x *^ 2", 41, list(10, 10, 20, 20, 30, 30, 40, 40, 50)},
		{"x *^ 10", 12, list(10, 10, 10, 10, 10, 10, 10, 10, 10, 10, 20, 20)},
		{"x /^ 2", 41, list(10, 30, 50)},
		{"x ~> 1/2", 41, list(10, 20, 30, 40)},
		{"x ~> 3/1", 41, list(10, 20)},
		{"x ~> 0/7", 41, list(10, 20, 30, 40, 50)},
		{"7 fby x", 41, list(70, 10, 20, 30, 40)},
		{"-7 fby -8 fby x", 41, list(-70, -80, 10, 20, 30)},
		{"tail x", 41, list(20, 30, 40, 50)},
		{"tail tail x", 41, list(30, 40, 50)},
		{"9 :: y", 81, list(90, 110, 120, 130)},
		{"8 :: 9 :: y", 81, list(80, 90, 110, 120, 130)},
		{"tail 9 :: y", 81, list(110, 120, 130)},
		{"9 :: tail x", 41, list(90, 20, 30, 40, 50)},
		{"(tail x) *^ 2", 41, list(20, 20, 30, 30, 40, 40, 50)},
		{"tail (x *^ 2)", 41, list(10, 20, 20, 30, 30, 40, 40, 50)},
		{"x *^ 2 /^ 4", 41, list(10, 30, 50)},
		{"x /^ 2 *^ 4", 41, list(10, 10, 10, 10, 30, 30, 30, 30, 50)},
		{"(3 fby x /^ 2) *^ 2", 41, list(30, 30, 10, 10, 30)},
		{"y", 81, list(110, 120, 130)},
		{"z", 31, list(210, 220, 230, 240, 250)},
	} {
		valuesAre(t, "flow f = m("+x.e+");", in, x.until, x.want)
		valuesAre(t, "flow f = m(g); flow g = "+x.e+";", in, x.until, x.want)
	}
}

// P10.1: each argument comes from its own source, by its own operators.
func TestSeveralArguments(t *testing.T) {
	in := inputs(list(1, 2, 3, 4, 5), list(4, 5, 6), list(7, 8, 9))
	valuesAre(t, "flow f = k(x, w, 9 fby x);", in, 30, list(149, 251, 362))
	valuesAre(t, "flow f = k(w, x, x);", in, 30, list(411, 522, 633))
	valuesAre(t, "flow f = k(y, (tail tail tail tail x) /^ 2, 3 :: y ~> 1/1);", in, 81, list(753, 807, 908))
	valuesAre(t, "flow f = n(y, y); flow g = n(f, 1 fby f);", in, 81, list(14, 16, 18), list(15, 30, 34))
}

// P10.1: in the order, not by their numbers: a task of the same date is reckoned ahead of who reads it.
func TestTasksThatHangOnLaterOnes(t *testing.T) {
	in := inputs(list(1, 2, 3))
	valuesAre(t, "flow f = m(m(m(x)));", in, 21, list(1000, 2000, 3000), list(100, 200, 300), list(10, 20, 30))
	valuesAre(t, "flow a = n(b, c); flow b = m(d); flow c = 1 fby m(b); flow d = n(m(x), x);", in, 21,
		list(111, 1320, 2530), list(110, 220, 330), list(1100, 2200, 3300), list(11, 22, 33), list(10, 20, 30))
	valuesAre(t, "flow a = m(b); flow b = m(c *^ 2); flow c = m(x);", in, 21, list(1000, 1000, 2000, 2000, 3000), list(100, 100, 200, 200, 300), list(10, 20, 30))
	valuesAre(t, "flow a = m(b); flow b = m(c /^ 2); flow c = m(x);", in, 21, list(1000, 3000), list(100, 300), list(10, 20, 30))
	valuesAre(t, "flow a = m(5 :: tail b); flow b = m(x);", in, 21, list(50, 200, 300), list(10, 20, 30))
}

// P10.1: tasks that read themselves, or each other, one behind.
func TestTasksThatReadThemselves(t *testing.T) {
	in := inputs(list(1, 2, 3, 4))
	valuesAre(t, "flow f = n(x, 0 fby f);", in, 60, list(1, 3, 6, 10, 10, 10))
	valuesAre(t, "flow f = n(x, 5 fby 7 fby f);", in, 60, list(6, 9, 9, 13, 9, 13))
	valuesAre(t, "flow f = n(0 fby g, x); flow g = n(1 fby f, 0 fby g);", in, 50, list(1, 3, 5, 9, 10), list(1, 2, 5, 10, 19))
	// A shift, and a cons ahead of it, so that the clock is as it was.
	valuesAre(t, "flow f = n(x, 6 :: f ~> 1/1);", in, 60, list(7, 9, 12, 16, 16, 16))
	valuesAre(t, "flow f = n(x, (0 fby f /^ 2) *^ 2);", in, 60, list(1, 2, 4, 5, 4, 4))
}

// P10.1: of a task that reads but itself, which none writes.
func TestTasksWithoutInputs(t *testing.T) {
	f := api.Flat{
		Nodes: made(t, head).Nodes,
		Tasks: []api.Task{{Node: 1, Clock: every(3, 2), Args: []api.Arg{
			{Ops: []api.Op{op(api.EFby, 1, 0)}}, {Ops: []api.Op{op(api.EFby, 1, 0), op(api.EFby, 0, 0)}},
		}}},
		Tells: []api.Tell{{Clock: every(6, 2), Arg: api.Arg{Ops: []api.Op{op(api.EUnder, 2, 0)}}, Deadline: 5}},
	}
	valuesOf(t, f, nil, 27, list(1, 2, 3, 5, 8, 13, 21, 34, 55))
	valuesOf(t, f, inputs(list(9, 9)), 26, list(1, 2, 3, 5, 8, 13, 21, 34))
	saysOf(t, f, nil, 24, stream.Said{Date: 7, Value: 1}, stream.Said{Job: 1, Date: 13, Value: 3}, stream.Said{Job: 2, Date: 19, Value: 8})
	saysOf(t, f, nil, 6)
}

// P10.1: those whose dates are below until, of each task by its own clock.
func TestValuesBelowUntil(t *testing.T) {
	f := made(t, head+"flow a = m(x); flow b = m(y); flow c = m(z);")
	in := inputs(list(1, 2, 3), nil, list(4, 5), list(6, 7, 8))
	valuesOf(t, f, in, 0, nil, nil, nil)
	valuesOf(t, f, in, 1, list(10), nil, nil)
	valuesOf(t, f, in, 10, list(10), nil, nil)
	valuesOf(t, f, in, 11, list(10, 20), nil, list(60))
	valuesOf(t, f, in, 15, list(10, 20), nil, list(60))
	valuesOf(t, f, in, 16, list(10, 20), nil, list(60, 70))
	valuesOf(t, f, in, 40, list(10, 20, 30, 0), nil, list(60, 70, 80, 0, 0, 0))
	valuesOf(t, f, in, 41, list(10, 20, 30, 0, 0), list(40), list(60, 70, 80, 0, 0, 0, 0))
	valuesOf(t, api.Flat{}, nil, 0)
	valuesOf(t, api.Flat{}, in, last)
	valuesOf(t, api.Flat{Inputs: f.Inputs}, in, last)
}

// P10.1: an input's value that isn't there is 0, and those that none asks for are nothing.
func TestInputsThatAreNotThere(t *testing.T) {
	s := "flow f = k(x, 7 fby w, 3 :: tail w);"
	valuesAre(t, s, nil, 21, list(73, 0, 0))
	valuesAre(t, s, inputs(), 21, list(73, 0, 0))
	valuesAre(t, s, inputs(nil, nil, nil, nil), 21, list(73, 0, 0))
	valuesAre(t, s, inputs(list(1)), 21, list(173, 0, 0))
	valuesAre(t, s, inputs(nil, list(1)), 21, list(73, 10, 0))
	valuesAre(t, s, inputs(list(1, 2), list(3, 4, 5, 6)), 21, list(173, 234, 45))
	valuesAre(t, s, inputs(list(1, 2, 3, 4, 5, 6, 7), nil, nil, nil, list(8), list(9)), 21, list(173, 200, 300))
	saysAre(t, "flow f = x; output o = f deadline 3;", inputs(list(5)), 23, [4]int64{0, 0, 3, 5}, [4]int64{0, 1, 13, 0}, [4]int64{0, 2, 23, 0})
	saysAre(t, "flow f = z; output o = f deadline 3;", inputs(list(5), list(5), list(5)), 14, [4]int64{0, 0, 13, 0})
}

// P10.1: modulo 2^64, as layer 5 reckons, and of any numbers.
func TestGreatValues(t *testing.T) {
	in := inputs(list(math.MaxInt64, math.MinInt64, -1, math.MaxInt64), list(1, -1, math.MinInt64, math.MaxInt64))
	valuesAre(t, "flow f = n(x, w); flow g = m(x);", in, 31, list(math.MinInt64, math.MaxInt64, math.MaxInt64, -2), list(-10, 0, -10, -10))
	saysAre(t, "flow f = x; output o = f deadline 1;", in, 11, [4]int64{0, 0, 1, math.MaxInt64}, [4]int64{0, 1, 11, math.MinInt64})
}

// P10.1: what the nodes reckon, of parameters by their places.
func TestNodes(t *testing.T) {
	f := made(t, "node a(p, q) budget 1 { p < q ? q - p : p / q } node b(p, q) budget 2 { q % p == 1 ? -p : 7 } input x period 10; input w period 10; flow f = a(x, w); flow g = b(x, w); flow h = a(w, f);")
	in := inputs(list(1, 9, 5, 3), list(4, 2, 0, 10))
	valuesOf(t, f, in, 31, list(3, 4, 0, 7), list(7, 7, 7, -3), list(1, 2, 0, 1))
}

// P10.1: by dates, and of one date by tells.
func TestSays(t *testing.T) {
	in := inputs(list(1, 2, 3), list(4, 5, 6), list(7, 8), list(9, 8, 7, 6))
	saysAre(t, "flow f = x; flow g = w; output a = f deadline 3; output b = g deadline 3;", in, 14,
		[4]int64{0, 0, 3, 1}, [4]int64{1, 0, 3, 4}, [4]int64{0, 1, 13, 2}, [4]int64{1, 1, 13, 5})
	saysAre(t, "flow f = x; flow g = w; output a = g deadline 12; output b = f deadline 2; output c = f deadline 3;", in, 22,
		[4]int64{1, 0, 2, 1}, [4]int64{2, 0, 3, 1}, [4]int64{0, 0, 12, 4}, [4]int64{1, 1, 12, 2}, [4]int64{2, 1, 13, 2}, [4]int64{0, 1, 22, 5}, [4]int64{1, 2, 22, 3})
	// One tell's later value is said ahead of another one's earlier one.
	saysAre(t, "flow f = x; flow g = z; output a = f deadline 30; output b = g deadline 1;", in, 31,
		[4]int64{1, 0, 11, 9}, [4]int64{1, 1, 16, 8}, [4]int64{1, 2, 21, 7}, [4]int64{1, 3, 26, 6}, [4]int64{0, 0, 30, 1}, [4]int64{1, 4, 31, 0})
	// The tell's own argument has operators, too.
	saysAre(t, "flow f = m(x); flow g = 7 fby tail f /^ 2; output a = g deadline 5;", in, 65, [4]int64{0, 0, 25, 7}, [4]int64{0, 1, 45, 30}, [4]int64{0, 2, 65, 0})
	saysAre(t, "flow f = 5 :: 6 :: y; output a = f deadline 4;", in, 64, [4]int64{0, 0, 4, 5}, [4]int64{0, 1, 24, 6}, [4]int64{0, 2, 44, 7}, [4]int64{0, 3, 64, 8})
	saysAre(t, "flow f = m(x);", in, last)
}

// P10.1: up to until, which counts.
func TestSaysUpToUntil(t *testing.T) {
	f := made(t, head+"flow f = m(x); flow g = y; output a = f deadline 10; output b = g deadline 3;")
	in := inputs(list(1, 2, 3, 4), nil, list(5))
	all := []stream.Said{
		{Tell: 0, Job: 0, Date: 10, Value: 10}, {Tell: 0, Job: 1, Date: 20, Value: 20}, {Tell: 0, Job: 2, Date: 30, Value: 30},
		{Tell: 0, Job: 3, Date: 40, Value: 40}, {Tell: 1, Job: 0, Date: 43, Value: 5}, {Tell: 0, Job: 4, Date: 50, Value: 0},
	}
	for i, until := range []int64{0, 1, 9, 10, 19, 20, 29, 30, 39, 40, 42, 43, 49, 50, 59} {
		saysOf(t, f, in, until, all[:[]int{0, 0, 0, 1, 1, 2, 2, 3, 3, 4, 4, 5, 5, 6, 6}[i]]...)
	}
	saysOf(t, api.Flat{}, nil, last)
	saysOf(t, api.Flat{Inputs: f.Inputs, Nodes: f.Nodes, Tasks: f.Tasks}, in, last)
}

// P10.1: a deadline may be longer than until.
func TestSaysAtTheLastDate(t *testing.T) {
	c := every(api.MaxHyper, api.MaxHyper)
	f := api.Flat{Inputs: []api.Clock{c, every(1, 0)}, Tells: []api.Tell{{Clock: c, Deadline: api.MaxTicks}, {Clock: every(1, 0), Arg: api.Arg{Src: 1}, Deadline: api.MaxTicks}}}
	in := make([][]int64, 2)
	for n := range int64(last) {
		in[0] = append(in[0], 5+n)
		in[1] = append(in[1], 7*n)
	}
	for _, until := range []int64{999, 1000, 2999, 3000, 3001, last - 1, last} {
		got, err := stream.Says(f, in, until)
		var want []stream.Said
		for date := range until + 1 {
			if date >= 3000 && date%2000 == 1000 {
				want = append(want, stream.Said{Tell: 0, Job: (date - 3000) / 2000, Date: date, Value: 5 + (date-3000)/2000})
			}
			if date >= 1000 {
				want = append(want, stream.Said{Tell: 1, Job: date - 1000, Date: date, Value: 7 * (date - 1000)})
			}
		}
		if err != api.OK || !slices.Equal(got, want) {
			t.Error(until, len(got), len(want), err)
		}
	}
}

// P10.1: there may be any number of tells; of one date the tenth is said behind the second.
func TestManyTells(t *testing.T) {
	f := made(t, head+"flow f = m(x); output o = f deadline 4;")
	f.Tells = slices.Repeat(f.Tells, 20000)
	l, err := stream.Says(f, inputs(list(1, 2)), 14)
	if err != api.OK || len(l) != 40000 {
		t.Fatal(len(l), err)
	}
	for i, s := range l {
		job := int64(i / 20000)
		if s != (stream.Said{Tell: i % 20000, Job: job, Date: 4 + 10*job, Value: 10 + 10*job}) {
			t.Fatal(i, s)
		}
	}
}

// P10.1: as many tasks as may be, at each date, up to the last one.
func TestAsMuchAsMayBe(t *testing.T) {
	f := made(t, "node n(a, b) budget 1 { a + b * 2 } input x period 1; flow f = n(x, 0 fby x); output o = f deadline 1;")
	f.Tasks = slices.Repeat(f.Tasks, api.MaxTasks)
	for i := range f.Tasks[1:] {
		f.Tasks[i].Args = []api.Arg{{Src: i + 2}, {Src: 0, Ops: slices.Repeat([]api.Op{op(api.EFby, 1, 0)}, api.MaxOps)}}
	}
	in := make([][]int64, 1)
	for n := range int64(last) {
		in[0] = append(in[0], n*n)
	}
	l, err := stream.Values(f, in, last)
	if err != api.OK || len(l) != api.MaxTasks {
		t.Fatal(len(l), err)
	}
	for i := range l {
		if len(l[i]) != last {
			t.Fatal(i, len(l[i]))
		}
		for n := range int64(last) {
			far := int64(1)
			if n >= api.MaxOps {
				far = (n - api.MaxOps) * (n - api.MaxOps)
			}
			want := n*n + 2*max(n-1, 0)*max(n-1, 0) + int64(api.MaxTasks-1-i)*2*far
			if l[i][n] != want {
				t.Fatal(i, n, l[i][n], want)
			}
		}
	}
}

// P10.1: until from 0 to 20000.
func TestUntilThatCannotBe(t *testing.T) {
	f := made(t, head+"flow f = n(x, 0 fby f); output o = f deadline 4;")
	for _, until := range []int64{-1, -2, -1000, math.MinInt64, math.MinInt64 + 1, last + 1, last + 2, 1 << 32, 1 << 40, math.MaxInt64} {
		refused(t, f, until, api.ErrArg)
		refused(t, api.Flat{}, until, api.ErrArg)
	}
	for _, until := range []int64{0, last} {
		if l, err := stream.Values(f, nil, until); err != api.OK || int64(len(l[0])) != until/10 {
			t.Error(until, len(l), err)
		}
		if l, err := stream.Says(f, nil, until); err != api.OK || int64(len(l)) != until/10 {
			t.Error(until, len(l), err)
		}
	}
}

// wrongFlats are flat programs that aren't right, made from one that is.
func wrongFlats(t *testing.T) map[string]api.Flat {
	l := map[string]api.Flat{}
	for name, change := range map[string]func(*api.Flat){
		"input's clock":   func(f *api.Flat) { f.Inputs[3].Period = 0 },
		"budget":          func(f *api.Flat) { f.Nodes[2].Budget = api.MaxTicks + 1 },
		"no node":         func(f *api.Flat) { f.Tasks[0].Node = 3 },
		"node below 0":    func(f *api.Flat) { f.Tasks[0].Node = -1 },
		"few arguments":   func(f *api.Flat) { f.Tasks[0].Args = f.Tasks[0].Args[:1] },
		"no source":       func(f *api.Flat) { f.Tasks[0].Args[0].Src = 6 },
		"source below 0":  func(f *api.Flat) { f.Tasks[1].Args[0].Src = -1 },
		"task's clock":    func(f *api.Flat) { f.Tasks[1].Clock.Phase = 10 },
		"factor":          func(f *api.Flat) { f.Tasks[0].Args[1].Ops = []api.Op{op(api.EOver, 0, 0)} },
		"kind":            func(f *api.Flat) { f.Tasks[0].Args[1].Ops = []api.Op{op(api.EConst, 1, 1)} },
		"operators":       func(f *api.Flat) { f.Tasks[0].Args[1].Ops = slices.Repeat([]api.Op{op(api.EFby, 1, 0)}, 21) },
		"tasks":           func(f *api.Flat) { f.Tasks = append(f.Tasks, slices.Repeat(f.Tasks[:1], 29)...) },
		"tell's source":   func(f *api.Flat) { f.Tells[0].Arg.Src = 6 },
		"tell's clock":    func(f *api.Flat) { f.Tells[0].Clock = every(5, 0) },
		"tell's deadline": func(f *api.Flat) { f.Tells[0].Deadline = 0 },
		"far deadline":    func(f *api.Flat) { f.Tells[0].Deadline = math.MinInt64 },
	} {
		f := made(t, head+"flow f = n(m(x), 0 fby f); output o = f deadline 4;")
		change(&f)
		l[name] = f
	}
	return l
}

// P10.1
func TestFlatsThatAreNotRight(t *testing.T) {
	for name, f := range wrongFlats(t) {
		if flat.Right(f) {
			t.Error(name)
		}
		for _, until := range []int64{0, 1, 100, last, -1, last + 1} {
			refused(t, f, until, api.ErrArg)
		}
	}
}

// P10.1: layer 9's error, behind that of what isn't right, and of until.
func TestCycles(t *testing.T) {
	for _, s := range []string{"flow f = n(x, f);", "flow f = n(x, g); flow g = m(f);", "flow f = n(x, 0 :: tail f); flow g = x; output o = g deadline 3;"} {
		f := made(t, head+s)
		for _, until := range []int64{0, 1, 100, last} {
			refused(t, f, until, api.ErrCycle)
		}
		for _, until := range []int64{-1, last + 1, math.MinInt64, math.MaxInt64} {
			refused(t, f, until, api.ErrArg)
		}
		f.Inputs[2].Phase = -1
		refused(t, f, 100, api.ErrArg)
	}
}

// R1: lists that hold each other, bodies that can't be read, numbers from end to end.
func TestEndsOfWhateverIsHandedIn(t *testing.T) {
	own := api.Expr{Kind: api.EOp, Name: "+", Args: make([]api.Expr, 2)}
	own.Args[0] = own
	own.Args[1] = api.Expr{Kind: api.EConst, N: 3}
	for _, e := range []api.Expr{own, {}, {Kind: api.EOp, Name: "?"}, {Kind: api.EParam, Name: "none"}, {Kind: -1}, {Kind: api.ECall}} {
		f := made(t, head+"flow f = n(m(x), 0 fby f); output o = f deadline 4;")
		f.Nodes[0].Body = e
		f.Nodes[1].Params = []string{"", ""}
		if l, err := stream.Values(f, inputs(list(1, 2)), 100); err != api.OK || len(l) != 2 || len(l[1]) != 10 {
			t.Error(l, err)
		}
		if l, err := stream.Says(f, inputs(list(1, 2)), 100); err != api.OK || len(l) != 10 {
			t.Error(l, err)
		}
	}
	for _, n := range []int{math.MinInt, -1, 0, 1, 2, math.MaxInt} {
		a := api.Arg{Src: n, Ops: []api.Op{op(n, int64(n), int64(n))}}
		c := every(int64(n), int64(n))
		f := api.Flat{
			Inputs: []api.Clock{c}, Nodes: []api.Node{{Budget: int64(n)}, {Params: []string{""}, Budget: 1}},
			Tasks: []api.Task{{Node: n, Clock: c, Args: []api.Arg{a}}}, Tells: []api.Tell{{Clock: c, Arg: a, Deadline: int64(n)}},
		}
		for _, until := range []int64{math.MinInt64, -1, 0, 1, last, math.MaxInt64} {
			refused(t, f, until, api.ErrArg)
			stream.Jobs(c, until)
		}
	}
}

// R5: what is handed in is left as it is, its spare room too, and isn't kept; what is answered is new memory.
func TestLeavesWhatIsHandedIn(t *testing.T) {
	s := head + "flow f = n(m(x), 0 fby f); flow g = m(x); output o = f deadline 4; output p = g deadline 20;"
	f, same := made(t, s), made(t, s)
	in := inputs(list(1, 2, 3, 77)[:3], list(4, 77)[:1], list(5, 77))[:2]
	values, _ := stream.Values(f, in, 40)
	says, _ := stream.Says(f, in, 40)
	if !reflect.DeepEqual(f, same) || !sameLists(in[:3], inputs(list(1, 2, 3), list(4), list(5, 77))) || in[0][:4][3] != 77 || in[1][:2][1] != 77 {
		t.Error("changed", f, in)
	}
	wantValues, wantSays := inputs(list(10, 30, 60, 60), list(10, 20, 30, 0), list(10, 20, 30, 0)), slices.Clone(says)
	in[0][0], in[1][0] = 99, 99
	f.Tells[0].Deadline, f.Tasks[0].Node = 7, 9
	if !sameLists(values, wantValues) || !slices.Equal(says, wantSays) {
		t.Error("kept", values, says)
	}
	for i := range values {
		for n := range values[i] {
			values[i][n] = int64(1000 + i)
		}
		// Spare room isn't shared, either.
		for n := range values[i][:cap(values[i])] {
			values[i][:cap(values[i])][n] = int64(1000 + i)
		}
	}
	for i := range values {
		for _, v := range values[i] {
			if v != int64(1000+i) {
				t.Error("shared", values)
			}
		}
	}
	if !sameLists(in[:3], inputs(list(99, 2, 3), list(99), list(5, 77))) || !slices.Equal(says, wantSays) {
		t.Error("shared", in, says)
	}
}

// P10.1: the order of tasks is layer 9's: each is reckoned behind all on which it hangs.
func TestLongChain(t *testing.T) {
	f := made(t, head+"flow f = "+strings.Repeat("m(", 8)+"x"+strings.Repeat(")", 8)+";")
	l, err := order.Of(f)
	if err != api.OK || !slices.Equal(l, []int{7, 6, 5, 4, 3, 2, 1, 0}) {
		t.Fatal(l, err)
	}
	values, err := stream.Values(f, inputs(list(3)), 1)
	for i, want := 7, int64(30); i >= 0; i, want = i-1, want*10 {
		if err != api.OK || !slices.Equal(values[i], list(want)) {
			t.Error(i, values[i], want)
		}
	}
}
