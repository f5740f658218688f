package sched_test

import (
	"math"
	"reflect"
	"slices"
	"testing"

	"horarium/api"
	"horarium/check"
	"horarium/flat"
	"horarium/sample"
	"horarium/sched"
	"horarium/syntax"
)

// last is the last time up to which a plan is expanded.
const last = 20000

// head is nodes m, n and s, which is slow, of one parameter, and k of two, and inputs; y alone doesn't come at once.
const head = "node m(a) budget 3 { a } node n(a) budget 2 { a } node k(a, b) budget 1 { a + b } node s(a) budget 8 { a } " +
	"input x period 10; input y period 20 phase 40; input z period 5; "

func every(period, phase int64) api.Clock { return api.Clock{Period: period, Phase: phase} }
func op(kind int, n, d int64) api.Op      { return api.Op{Kind: kind, N: n, D: d} }

// slot is that of the task's job.
func slot(task, job int, start int64) api.Slot {
	return api.Slot{Task: task, Job: job, Start: start}
}

// made is the text's program, behind the head, made flat.
func made(t *testing.T, s string) api.Flat {
	t.Helper()
	p, at, err := syntax.Parse(head + s)
	if err != api.OK {
		t.Fatalf("%q: at %d, %v", s, at, err)
	}
	l, at, err := check.Check(p)
	if err != api.OK {
		t.Fatalf("%q: at %d, %v", s, at, err)
	}
	f, at, err := flat.Make(p, l)
	if err != api.OK {
		t.Fatalf("%q: at %d, %v", s, at, err)
	}
	return f
}

func planOf(t *testing.T, what any, f api.Flat, s, h int64, slots ...api.Slot) {
	t.Helper()
	p, err := sched.Make(f)
	if err != api.OK || p.S != s || p.H != h || !slices.Equal(p.Slots, slots) {
		t.Errorf("%v:\n%v, %v; should be\n%v", what, p, err, sched.Plan{S: s, H: h, Slots: slots})
	}
}

// planIs asks for the plan of the text, behind the head.
func planIs(t *testing.T, text string, s, h int64, slots ...api.Slot) {
	t.Helper()
	planOf(t, text, made(t, text), s, h, slots...)
}

func refusedOf(t *testing.T, what any, f api.Flat, want api.Errno) {
	t.Helper()
	if p, err := sched.Make(f); err != want || p.S != 0 || p.H != 0 || len(p.Slots) != 0 {
		t.Errorf("%v: %v, %v; should be %v", what, p, err, want)
	}
}

// refusedIs asks for the error of the text, behind the head.
func refusedIs(t *testing.T, text string, want api.Errno) {
	t.Helper()
	refusedOf(t, text, made(t, text), want)
}

// plan is the flat program's, which has one.
func plan(t *testing.T, f api.Flat) sched.Plan {
	t.Helper()
	p, err := sched.Make(f)
	if err != api.OK {
		t.Fatal(f, err)
	}
	return p
}

func expandedIs(t *testing.T, f api.Flat, p sched.Plan, until int64, want ...api.Slot) {
	t.Helper()
	if l := sched.Expand(f, p, until); !slices.Equal(l, want) {
		t.Errorf("%v up to %d:\n%v; should be\n%v", p, until, l, want)
	}
}

// P12.1: the chapter's example.
func TestExample(t *testing.T) {
	f := made(t, "flow f = n(m(x));")
	planOf(t, "example", f, 0, 10, slot(1, 0, 0), slot(0, 0, 3))
	expandedIs(t, f, plan(t, f), 31, slot(1, 0, 0), slot(0, 0, 3), slot(1, 1, 10), slot(0, 1, 13), slot(1, 2, 20), slot(0, 2, 23), slot(1, 3, 30))
}

// P12.1: what there is to run, when it is released.
func TestPlans(t *testing.T) {
	planIs(t, "", 0, 1)
	planOf(t, "nothing", api.Flat{}, 0, 1)
	planIs(t, "flow f = x; output o = f deadline 7;", 7, 10)
	planIs(t, "flow f = m(x);", 0, 10, slot(0, 0, 0))
	planIs(t, "flow f = m(y);", 40, 20, slot(0, 0, 40))
	// All below S and H, from 0 on.
	planIs(t, "flow f = m(x); flow g = n(y);", 40, 20,
		slot(0, 0, 0), slot(0, 1, 10), slot(0, 2, 20), slot(0, 3, 30), slot(0, 4, 40), slot(1, 0, 43), slot(0, 5, 50))
	planIs(t, "flow f = k(x, 0 fby f);", 20, 10, slot(0, 0, 0), slot(0, 1, 10), slot(0, 2, 20))
	planIs(t, "flow f = m(x); output o = f deadline 3;", 3, 10, slot(0, 0, 0), slot(0, 1, 10))
	// One behind the other, without a gap.
	planIs(t, "flow a = m(x); flow b = n(x); flow c = m(x); flow d = n(x);", 0, 10, slot(0, 0, 0), slot(1, 0, 3), slot(2, 0, 5), slot(3, 0, 8))
	// The next release is waited for, also the first one.
	planOf(t, "gaps", sample.Row([]int64{2, 1}, every(20, 3), every(20, 9)), 9, 20, slot(0, 0, 3), slot(1, 0, 9), slot(0, 1, 23))
}

// P12.1: whose deadline is least runs first, wherever it stands in the list.
func TestLeastDeadline(t *testing.T) {
	planIs(t, "flow f = m(x); flow g = n(z);", 0, 10, slot(1, 0, 0), slot(0, 0, 2), slot(1, 1, 5))
	planIs(t, "flow f = n(z); flow g = m(x);", 0, 10, slot(0, 0, 0), slot(1, 0, 2), slot(0, 1, 5))
	planIs(t, "flow a = m(x); flow b = n(x); output o = b deadline 2;", 2, 10, slot(1, 0, 0), slot(0, 0, 2), slot(1, 1, 10))
	// Of what was released earlier, and what is released just now.
	planOf(t, "just now", sample.Row([]int64{3, 4, 2}, every(10, 0), every(20, 0), every(20, 3)), 3, 20,
		slot(0, 0, 0), slot(1, 0, 3), slot(2, 0, 7), slot(0, 1, 10), slot(0, 2, 20))
	f := sample.Row([]int64{3, 4, 2}, every(10, 0), every(20, 0), every(20, 3))
	f.Tells = []api.Tell{{Clock: every(20, 3), Arg: api.Arg{Src: 5}, Deadline: 2}}
	planOf(t, "just now, told", f, 5, 20,
		slot(0, 0, 0), slot(2, 0, 3), slot(1, 0, 5), slot(0, 1, 10), slot(0, 2, 20), slot(2, 1, 23))
	// What runs isn't broken off.
	f = sample.Row([]int64{4, 2}, every(20, 0), every(20, 3))
	f.Tells = []api.Tell{{Clock: every(20, 3), Arg: api.Arg{Src: 3}, Deadline: 3}}
	planOf(t, "not broken off", f, 6, 20, slot(0, 0, 0), slot(1, 0, 4), slot(0, 1, 20), slot(1, 1, 24))
}

// P12.1: of equal deadlines, the first one of layer 11's list: by releases, then by the order of tasks.
func TestEqualDeadlines(t *testing.T) {
	planIs(t, "flow a = n(x); flow b = m(x); flow c = n(x);", 0, 10, slot(0, 0, 0), slot(1, 0, 2), slot(2, 0, 5))
	// Task 0 hangs on task 2, so that it stands behind task 1.
	planIs(t, "flow a = m(c); flow b = n(x); flow c = n(x);", 0, 10, slot(2, 0, 0), slot(1, 0, 2), slot(0, 0, 4))
	// Task 0 is released later than task 1, and both end at 10, at 30, and so on.
	f := sample.Row([]int64{2, 2, 6}, every(20, 5), every(10, 0), every(10, 0))
	f.Tells = []api.Tell{{Clock: every(20, 5), Arg: api.Arg{Src: 3}, Deadline: 5}, {Clock: every(10, 0), Arg: api.Arg{Src: 5}, Deadline: 6}}
	planOf(t, "by releases", f, 10, 20,
		slot(2, 0, 0), slot(1, 0, 6), slot(0, 0, 8), slot(2, 1, 10), slot(1, 1, 16), slot(2, 2, 20), slot(1, 2, 26), slot(0, 1, 28))
}

// P12.1: deadlines are adjusted by who needs the job.
func TestAdjustedDeadlines(t *testing.T) {
	// By its own deadline, c would be the last one.
	planIs(t, "flow a = m(x); flow b = n(c); flow c = n(x); output o = b deadline 5; output p = a deadline 7;", 7, 10,
		slot(2, 0, 0), slot(1, 0, 2), slot(0, 0, 4), slot(2, 1, 10), slot(1, 1, 12), slot(0, 1, 14))
	// By who needs it later: a's first value is needed by b's second one alone, and at once.
	planIs(t, "flow b = s(0 fby a); flow a = n(x);", 20, 10,
		slot(0, 0, 0), slot(1, 0, 8), slot(0, 1, 10), slot(1, 1, 18), slot(0, 2, 20), slot(1, 2, 28))
}

// P12.1: a job runs behind all that it needs, of other clocks, too.
func TestNeeds(t *testing.T) {
	planIs(t, "flow a = m(n(z) /^ 2);", 15, 10,
		slot(1, 0, 0), slot(0, 0, 2), slot(1, 1, 5), slot(1, 2, 10), slot(0, 1, 12), slot(1, 3, 15), slot(1, 4, 20), slot(0, 2, 22))
	planIs(t, "flow a = n(m(x) *^ 2);", 15, 10,
		slot(1, 0, 0), slot(0, 0, 3), slot(0, 1, 5), slot(1, 1, 10), slot(0, 2, 13), slot(0, 3, 15), slot(1, 2, 20), slot(0, 4, 23))
	planIs(t, "flow a = k(b, c); flow b = n(c); flow c = m(x); output o = a deadline 6;", 6, 10,
		slot(2, 0, 0), slot(1, 0, 3), slot(0, 0, 5), slot(2, 1, 10), slot(1, 1, 13), slot(0, 1, 15))
}

// P12.1: each job ends at its deadline at the latest.
func TestMisses(t *testing.T) {
	for _, x := range []struct {
		s    string
		most int64 // the least deadline at which there is a plan
	}{
		{"flow f = n(x);", 2},
		{"flow f = n(m(x));", 5},
		{"flow f = m(n(m(x)));", 8},
		{"flow g = m(x); flow f = n(x);", 2},
		{"flow g = m(x); flow f = n(g);", 5},
		{"flow g = m(x); flow h = m(x); flow f = k(g, h);", 7},
		{"flow g = m(x); flow f = n(0 fby g);", 2},
		{"flow f = s(y);", 8},
		{"input v period 20 phase 1; flow g = s(x); flow f = n(v);", 9},
	} {
		f := made(t, x.s+" output o = f deadline 1;")
		for dead := int64(1); dead < 12; dead++ {
			f.Tells[0].Deadline = dead
			if dead < x.most {
				refusedOf(t, x.s, f, api.ErrMiss)
				continue
			}
			if p, err := sched.Make(f); err != api.OK || len(p.Slots) == 0 {
				t.Errorf("%s, %d: %v, %v", x.s, dead, p, err)
			}
		}
	}
}

// P12.1: misses by periods.
func TestMissesOfPeriods(t *testing.T) {
	refusedOf(t, "two of 3 each 5", sample.Row([]int64{3, 3}, every(5, 0), every(5, 0)), api.ErrMiss)
	planOf(t, "3 and 2 each 5", sample.Row([]int64{3, 2}, every(5, 0), every(5, 0)), 0, 5, slot(0, 0, 0), slot(1, 0, 3))
	planOf(t, "5 each 5", sample.Row([]int64{5}, every(5, 0)), 0, 5, slot(0, 0, 0))
	refusedOf(t, "6 each 5", sample.Row([]int64{6}, every(5, 0)), api.ErrMiss)
	refusedOf(t, "6 each 5, from 2000 on", sample.Row([]int64{6}, every(5, 2000)), api.ErrMiss)
	// Not the first jobs alone.
	planOf(t, "second job", sample.Row([]int64{5, 10}, every(10, 0), every(30, 0)), 0, 30, slot(0, 0, 0), slot(1, 0, 5), slot(0, 1, 15), slot(0, 2, 20))
	refusedOf(t, "second job", sample.Row([]int64{5, 11}, every(10, 0), every(30, 0)), api.ErrMiss)
	refusedOf(t, "ninth job", sample.Row([]int64{5, 6}, every(10, 0), every(10, 70)), api.ErrMiss)
}

// P12.1: what would be in time, if something waited, misses; also if that is ahead of S alone.
func TestNothingWaits(t *testing.T) {
	tells := []api.Tell{{Clock: every(20, 1), Arg: api.Arg{Src: 4}, Deadline: 3}, {Clock: every(20, 40), Arg: api.Arg{Src: 5}, Deadline: 1}}
	f := sample.Row([]int64{8, 2, 1}, every(20, 0), every(20, 1), every(20, 40))
	f.Tells = tells
	refusedOf(t, "from 40 on", f, api.ErrMiss)
	// Task 2 runs at 0, and task 1 is there when it ends.
	f = sample.Row([]int64{8, 2, 1}, every(20, 0), every(20, 1), every(20, 0))
	tells[1].Clock.Phase = 0
	f.Tells = tells
	planOf(t, "from 0 on", f, 4, 20, slot(2, 0, 0), slot(1, 0, 1), slot(0, 0, 3), slot(2, 1, 20), slot(1, 1, 21), slot(0, 1, 23))
	f.Tells = tells[:1]
	refusedOf(t, "not told", f, api.ErrMiss)
}

// P12.1: all end in time, but what starts from S on doesn't come again H later.
func TestWhatDoesNotRepeat(t *testing.T) {
	// Task 0 is the only one at 0; behind that, task 1 runs ahead of it, so that its job of 2 runs at 2, and that of 6 at 7.
	refusedOf(t, "from 2 on", sample.Row([]int64{2, 1}, every(4, 0), every(2, 2)), api.ErrMiss)
	planOf(t, "from 0 on", sample.Row([]int64{2, 1}, every(4, 0), every(2, 0)), 0, 4, slot(1, 0, 0), slot(0, 0, 1), slot(1, 1, 3))
	planOf(t, "from 4 on", sample.Row([]int64{2, 1}, every(4, 0), every(2, 4)), 4, 4, slot(0, 0, 0), slot(1, 0, 4), slot(0, 1, 5), slot(1, 1, 7))
	// It is late by one more each time.
	refusedOf(t, "later and later", sample.Row([]int64{11, 10}, every(20, 0), every(20, 10)), api.ErrMiss)
	planOf(t, "not later", sample.Row([]int64{10, 10}, every(20, 0), every(20, 10)), 10, 20, slot(0, 0, 0), slot(1, 0, 10), slot(0, 1, 20))
}

// P12.1: layer 11's errors.
func TestErrors(t *testing.T) {
	for name, change := range map[string]func(*api.Flat){
		"input's clock":   func(f *api.Flat) { f.Inputs[2].Period = 0 },
		"budget":          func(f *api.Flat) { f.Nodes[3].Budget = api.MaxTicks + 1 },
		"no budget":       func(f *api.Flat) { f.Nodes[0].Budget = 0 },
		"no node":         func(f *api.Flat) { f.Tasks[0].Node = 4 },
		"no source":       func(f *api.Flat) { f.Tasks[0].Args[0].Src = 5 },
		"task's clock":    func(f *api.Flat) { f.Tasks[1].Clock.Phase = 10 },
		"operator":        func(f *api.Flat) { f.Tasks[0].Args[1].Ops = []api.Op{op(api.EConst, 1, 1)} },
		"tasks":           func(f *api.Flat) { f.Tasks = append(f.Tasks, slices.Repeat(f.Tasks[:1], 29)...) },
		"tell's deadline": func(f *api.Flat) { f.Tells[0].Deadline = 0 },
	} {
		f := made(t, "flow f = k(m(x), 0 fby f); output o = f deadline 4;")
		change(&f)
		refusedOf(t, name, f, api.ErrArg)
	}
	refusedIs(t, "flow f = k(x, f);", api.ErrCycle)
	refusedIs(t, "flow f = k(x, g); flow g = m(f);", api.ErrCycle)
	refusedIs(t, "input w period 997; flow f = m(w); flow g = m(x);", api.ErrLimit)
	refusedIs(t, "input w period 1000; flow f = m(1 fby 2 fby 3 fby w);", api.ErrLimit)
}

// P12.1: a plan's jobs up to S and three times H are at most MaxSlots.
func TestManyJobs(t *testing.T) {
	f := sample.Row([]int64{1}, every(1, 0))
	f.Inputs = append(f.Inputs, every(1333, 0))
	f.Tells = []api.Tell{{Clock: every(1333, 0), Arg: api.Arg{Src: 1}, Deadline: 1}}
	p, err := sched.Make(f)
	if err != api.OK || p.S != 1 || p.H != 1333 || len(p.Slots) != 1334 {
		t.Fatal(p.S, p.H, len(p.Slots), err)
	}
	for i, s := range p.Slots {
		if s != slot(0, i, int64(i)) {
			t.Fatal(i, s)
		}
	}
	f.Tells[0].Deadline = 2
	refusedOf(t, "4001 jobs", f, api.ErrLimit)
}

// P12.1: the error that is named first, where several apply.
func TestNamesTheFirstError(t *testing.T) {
	// There is no hyperperiod, no order, and a job that is too slow.
	f := made(t, "input w period 997; flow f = k(w, f); flow g = s(z);")
	refusedOf(t, "no hyperperiod", f, api.ErrLimit)
	f.Tasks[0].Node = -1
	refusedOf(t, "not right", f, api.ErrArg)
	// There is no order, and there are too many jobs.
	f = sample.Row([]int64{2, 2}, every(1, 0), every(2000, 0))
	f.Tasks[0].Args[0].Src = 2
	refusedOf(t, "no order", f, api.ErrCycle)
	// There are too many jobs, each of which is too slow.
	f.Tasks[0].Args[0].Src = 0
	refusedOf(t, "too many", f, api.ErrLimit)
	f.Tasks[0].Args[0].Src = 4
	refusedOf(t, "no source", f, api.ErrArg)
}

// P12.1
func TestBudget(t *testing.T) {
	f := made(t, "flow f = s(n(m(x)));")
	for task, want := range []int64{8, 2, 3} {
		if b := sched.Budget(f, task); b != want {
			t.Error(task, b, want)
		}
	}
	for _, task := range []int{-1, 3, 4, math.MinInt, math.MaxInt} {
		if b := sched.Budget(f, task); b != 0 {
			t.Error(task, b)
		}
	}
	for _, node := range []int{-1, 4, math.MinInt, math.MaxInt} {
		f.Tasks[1].Node = node
		if b := sched.Budget(f, 1); b != 0 {
			t.Error(node, b)
		}
	}
	if b := sched.Budget(api.Flat{}, 0); b != 0 {
		t.Error(b)
	}
}

// P12.1: all slots that start below until.
func TestExpand(t *testing.T) {
	f := made(t, "flow f = m(x); flow g = n(z);")
	p := plan(t, f)
	all := []api.Slot{slot(1, 0, 0), slot(0, 0, 2), slot(1, 1, 5), slot(1, 2, 10), slot(0, 1, 12), slot(1, 3, 15), slot(1, 4, 20), slot(0, 2, 22), slot(1, 5, 25)}
	for until, many := range []int{0, 1, 1, 2, 2, 2, 3, 3, 3, 3, 3, 4, 4, 5, 5, 5, 6, 6, 6, 6, 6, 7, 7, 8, 8, 8, 9, 9, 9, 9, 9} {
		expandedIs(t, f, p, int64(until), all[:many]...)
	}
	expandedIs(t, f, p, -1)
	expandedIs(t, f, p, math.MinInt64)
}

// P12.1: what starts ahead of S comes once.
func TestExpandFromS(t *testing.T) {
	f := made(t, "flow f = m(x); flow g = n(y);")
	p := plan(t, f)
	all := append(slices.Clone(p.Slots), slot(0, 6, 60), slot(1, 1, 63), slot(0, 7, 70), slot(0, 8, 80), slot(1, 2, 83), slot(0, 9, 90))
	expandedIs(t, f, p, 60, p.Slots...)
	expandedIs(t, f, p, 61, all[:8]...)
	expandedIs(t, f, p, 64, all[:9]...)
	expandedIs(t, f, p, 100, all...)
	expandedIs(t, f, p, 39, p.Slots[:4]...)
	expandedIs(t, f, p, 43, p.Slots[:5]...)
	// S isn't where a hyperperiod ends, and slots end behind S and H.
	f = sample.Row([]int64{10, 10}, every(20, 0), every(20, 10))
	expandedIs(t, f, plan(t, f), 61, slot(0, 0, 0), slot(1, 0, 10), slot(0, 1, 20), slot(1, 1, 30), slot(0, 2, 40), slot(1, 2, 50), slot(0, 3, 60))
}

// P12.1: until to 20000.
func TestExpandToTheLast(t *testing.T) {
	f := sample.Row([]int64{1}, every(1, 7))
	p := plan(t, f)
	l := sched.Expand(f, p, last)
	if len(l) != last-7 {
		t.Fatal(len(l))
	}
	for i, s := range l {
		if s != slot(0, i, int64(i+7)) {
			t.Fatal(i, s)
		}
	}
	f = sample.Row([]int64{1}, every(2000, 1999))
	if l := sched.Expand(f, plan(t, f), last); len(l) != 10 || l[9] != slot(0, 9, 19999) {
		t.Error(l)
	}
	if l := sched.Expand(f, plan(t, f), last-1); len(l) != 9 || l[8] != slot(0, 8, 17999) {
		t.Error(l)
	}
	expandedIs(t, f, plan(t, f), last+1)
	expandedIs(t, f, plan(t, f), math.MaxInt64)
}

// R1: whatever is handed in.
func TestEndsOfWhateverIsHandedIn(t *testing.T) {
	numbers := []int64{math.MinInt64, math.MinInt64 + 1, -1, 0, 1, 2, 3, last, last + 1, 1 << 40, math.MaxInt64 - 1, math.MaxInt64}
	f := made(t, "flow f = m(x); flow g = n(z);")
	broken := made(t, "flow f = m(x); flow g = n(z);")
	broken.Tasks[0].Clock.Period = 0
	broken.Tasks[1].Clock.Period = -1
	for _, s := range numbers {
		for _, h := range numbers {
			p := sched.Plan{S: s, H: h}
			for _, n := range numbers {
				p.Slots = append(p.Slots, slot(0, int(n), n), slot(1, 0, n), slot(int(n), int(n), n))
			}
			for _, until := range numbers {
				for _, g := range []api.Flat{f, broken, {}} {
					sched.Expand(g, p, until)
				}
			}
		}
	}
	for _, n := range numbers {
		a := api.Arg{Src: int(n), Ops: []api.Op{op(int(n), n, n)}}
		sched.Make(api.Flat{
			Inputs: []api.Clock{every(n, n)},
			Nodes:  []api.Node{{Params: []string{""}, Budget: n}},
			Tasks:  []api.Task{{Node: int(n), Clock: every(n, n), Args: []api.Arg{a}}},
			Tells:  []api.Tell{{Clock: every(n, n), Arg: a, Deadline: n}},
		})
	}
}

// R5: what is handed in is left as it is, its spare room too, and isn't kept; what is answered is new memory.
func TestLeavesWhatIsHandedIn(t *testing.T) {
	const s = "flow f = k(m(x), 0 fby f); flow g = n(z); output o = g deadline 4;"
	f, kept := made(t, s), made(t, s)
	p := plan(t, f)
	again := sched.Plan{S: p.S, H: p.H, Slots: slices.Clone(p.Slots)}
	room := append(slices.Clone(p.Slots), slot(9, 9, 9), slot(8, 8, 8))
	p.Slots = room[:len(p.Slots)]
	l := sched.Expand(f, p, 100)
	if !reflect.DeepEqual(f, kept) || !samePlan(p, again) || room[len(room)-2] != slot(9, 9, 9) || room[len(room)-1] != slot(8, 8, 8) {
		t.Error("changed", f, p, room)
	}
	few := sched.Expand(f, p, p.S+p.H)
	for i := range few {
		few[i].Start = -1
	}
	if !samePlan(p, again) {
		t.Error("shared", p)
	}
	for i := range p.Slots {
		p.Slots[i].Start = -2
	}
	if !slices.Equal(l, sched.Expand(f, again, 100)) {
		t.Error("shared", l)
	}
	if q := plan(t, f); !samePlan(q, again) {
		t.Error("kept from call to call", q)
	}
	f.Tasks[0].Node, f.Tasks[1].Clock.Period = 9, 3
	if q := plan(t, kept); !samePlan(q, again) {
		t.Error("kept from call to call", q)
	}
}

// P12.2: a chain whose budgets come to the period, and to the deadline; one more of either is too much.
func TestChain(t *testing.T) {
	planIs(t, "flow f = m(n(n(m(x)))); output o = f deadline 10;", 10, 10,
		slot(3, 0, 0), slot(2, 0, 3), slot(1, 0, 5), slot(0, 0, 7), slot(3, 1, 10), slot(2, 1, 13), slot(1, 1, 15), slot(0, 1, 17))
	refusedIs(t, "flow f = m(n(n(m(x)))); output o = f deadline 9;", api.ErrMiss)
	refusedIs(t, "flow f = m(n(n(m(x)))); flow g = k(x, x);", api.ErrMiss)
	refusedIs(t, "flow f = m(n(m(m(x))));", api.ErrMiss)
}
