package deadline_test

import (
	"math"
	"reflect"
	"slices"
	"strings"
	"testing"

	"horarium/api"
	"horarium/check"
	"horarium/deadline"
	"horarium/flat"
	"horarium/syntax"
)

// last is the last date up to which can be asked.
const last = 20000

// head is nodes m, n, k of one to three parameters, and s, which is slow, and inputs: 0 is x, 1 is y, 2 is z.
const head = "node m(a) budget 3 { a } node n(a, b) budget 2 { a + b } node k(a, b, c) budget 1 { a + b * c } node s(a) budget 15 { a } " +
	"input x period 10; input y period 20 phase 40; input z period 5 phase 10; "

func every(period, phase int64) api.Clock { return api.Clock{Period: period, Phase: phase} }
func op(kind int, n, d int64) api.Op      { return api.Op{Kind: kind, N: n, D: d} }

// job is a job that needs those at the places.
func job(task int, n, release, dead int64, needs ...int) deadline.Job {
	return deadline.Job{Task: task, N: n, Release: release, Deadline: dead, Needs: needs}
}

// made is the text's program, made flat.
func made(t *testing.T, s string) api.Flat {
	t.Helper()
	p, at, err := syntax.Parse(s)
	if err != api.OK {
		t.Fatalf("%q: at %d, %v", s, at, err)
	}
	l, at, err := check.Check(p)
	if err != api.OK {
		t.Fatalf("%q: at %d, %v", s, at, err)
	}
	f, at, err := flat.Make(p, l)
	if err != api.OK {
		t.Fatalf("%q: at %d, %v", s, at, err)
	}
	return f
}

// same is whether both are the same jobs; a list without elements is the same, whether it is nil or not.
func same(a, b deadline.Job) bool {
	return a.Task == b.Task && a.N == b.N && a.Release == b.Release && a.Deadline == b.Deadline && slices.Equal(a.Needs, b.Needs)
}

func jobsOf(t *testing.T, what any, f api.Flat, until int64, want ...deadline.Job) {
	t.Helper()
	got, err := deadline.Jobs(f, until)
	if err != api.OK || !slices.EqualFunc(got, want, same) {
		t.Errorf("%v, up to %d:\n%v, %v; should be\n%v", what, until, got, err, want)
	}
}

// jobsAre asks for the jobs of the text, behind the head.
func jobsAre(t *testing.T, s string, until int64, want ...deadline.Job) {
	t.Helper()
	jobsOf(t, s, made(t, head+s), until, want...)
}

func windowOf(t *testing.T, what any, f api.Flat, s, h int64) {
	t.Helper()
	if gotS, gotH, err := deadline.Window(f); gotS != s || gotH != h || err != api.OK {
		t.Errorf("%v: %d, %d, %v; should be %d, %d", what, gotS, gotH, err, s, h)
	}
}

// windowIs asks for the window of the text, behind the head.
func windowIs(t *testing.T, text string, s, h int64) {
	t.Helper()
	windowOf(t, text, made(t, head+text), s, h)
}

func jobsRefused(t *testing.T, what any, f api.Flat, until int64, want api.Errno) {
	t.Helper()
	if l, err := deadline.Jobs(f, until); err != want || len(l) != 0 {
		t.Errorf("%v, up to %d: %v, %v; should be %v", what, until, l, err, want)
	}
}

func windowRefused(t *testing.T, what any, f api.Flat, want api.Errno) {
	t.Helper()
	if s, h, err := deadline.Window(f); s != 0 || h != 0 || err != want {
		t.Errorf("%v: %d, %d, %v; should be %v", what, s, h, err, want)
	}
}

// P11.1, P11.3: the chapter's example, over two periods.
func TestExample(t *testing.T) {
	s := "node n(a) budget 2 { a } node m(a) budget 3 { a } input x period 10; flow f = n(m(x));"
	jobsOf(t, s, made(t, s), 11, job(1, 0, 0, 8), job(0, 0, 0, 10, 0), job(1, 1, 10, 18), job(0, 1, 10, 20, 2))
	windowOf(t, s, made(t, s), 0, 10)
}

// P11.1: released at its clock's dates below until.
func TestReleases(t *testing.T) {
	s := "flow f = m(y);"
	jobsAre(t, s, 0)
	jobsAre(t, s, 40)
	jobsAre(t, s, 41, job(0, 0, 40, 60))
	jobsAre(t, s, 60, job(0, 0, 40, 60))
	jobsAre(t, s, 61, job(0, 0, 40, 60), job(0, 1, 60, 80))
	jobsAre(t, "flow f = m(x);", 1, job(0, 0, 0, 10))
	jobsAre(t, "flow f = x; output o = f deadline 2;", last)
	jobsOf(t, "nothing", api.Flat{}, last)
}

// P11.1: by releases, and of one release in the order of tasks.
func TestOrder(t *testing.T) {
	jobsAre(t, "flow a = m(x); flow b = m(z);", 21,
		job(0, 0, 0, 10), job(0, 1, 10, 20), job(1, 0, 10, 15), job(1, 1, 15, 20), job(0, 2, 20, 30), job(1, 2, 20, 25))
	jobsAre(t, "flow a = m(z); flow b = m(x);", 16,
		job(1, 0, 0, 10), job(0, 0, 10, 15), job(1, 1, 10, 20), job(0, 1, 15, 20))
	// The outer call is task 0, and comes behind all others of its date.
	jobsAre(t, "flow a = m(m(m(x)));", 11,
		job(2, 0, 0, 4), job(1, 0, 0, 7, 0), job(0, 0, 0, 10, 1), job(2, 1, 10, 14), job(1, 1, 10, 17, 3), job(0, 1, 10, 20, 4))
	// What isn't needed at once stays by its number.
	jobsAre(t, "flow a = m(0 fby b); flow b = m(x);", 11,
		job(0, 0, 0, 10), job(1, 0, 0, 10), job(0, 1, 10, 20, 1), job(1, 1, 10, 20))
}

// P11.1: a tell brings the deadline forward, if what it says, it says ahead of the period's end.
func TestDeadlinesOfTells(t *testing.T) {
	for _, x := range []struct {
		s           string
		first, next int64
	}{
		{"", 10, 20},
		{"output o = f deadline 1;", 1, 11},
		{"output o = f deadline 9;", 9, 19},
		{"output o = f deadline 10;", 10, 20},
		{"output o = f deadline 11;", 10, 20},
		{"output o = f deadline 1000;", 10, 20},
		{"output o = f deadline 9; output p = f deadline 7; output q = f deadline 8;", 7, 17},
		{"output o = f deadline 12; output p = f deadline 15;", 10, 20},
		{"flow g = f; output o = g deadline 4;", 4, 14},
		// Each value is said twice, and the first time counts.
		{"flow g = f *^ 2; output o = g deadline 4;", 4, 14},
		// The second one isn't said.
		{"flow g = f /^ 2; output o = g deadline 4;", 4, 20},
		{"flow g = f /^ 2 *^ 4; output o = g deadline 4;", 4, 20},
		{"flow g = tail f; output o = g deadline 4;", 10, 14},
		{"flow g = 3 :: tail f; output o = g deadline 4;", 10, 14},
		{"flow g = f ~> 1/2; output o = g deadline 4;", 9, 19},
		{"flow g = f ~> 1/2; output o = g deadline 5;", 10, 20},
		{"flow g = f ~> 3/2; output o = g deadline 1;", 10, 20},
		{"flow g = 3 fby f; output o = g deadline 1;", 10, 20},
		{"flow g = (3 fby f *^ 10); output o = g deadline 4;", 5, 15},
		{"flow g = (3 fby f *^ 10) /^ 10; output o = g deadline 1;", 10, 20},
		{"flow g = x; output o = g deadline 4;", 10, 20},
		{"flow g = m(f); output o = g deadline 9;", 6, 16},
	} {
		l, err := deadline.Jobs(made(t, head+"flow f = m(x); "+x.s), 30)
		l = slices.DeleteFunc(l, func(j deadline.Job) bool { return j.Task > 0 })
		if err != api.OK || len(l) != 3 || l[0].Deadline != x.first || l[1].Deadline != x.next {
			t.Errorf("%s: %v, %v; should be %d, %d", x.s, l, err, x.first, x.next)
		}
	}
}

// P11.1: adjusted by who needs it, adjusted likewise, less that one's budget.
func TestAdjustedDeadlines(t *testing.T) {
	// The least of several.
	jobsAre(t, "flow a = m(x); flow b = n(a, a); flow c = m(a); flow d = k(a, x, x);", 1,
		job(0, 0, 0, 7), job(1, 0, 0, 10, 0), job(2, 0, 0, 10, 0), job(3, 0, 0, 10, 0))
	// One that needs it is told early.
	jobsAre(t, "flow a = m(x); flow b = n(a, a); flow c = m(a); output o = b deadline 4;", 1,
		job(0, 0, 0, 2), job(1, 0, 0, 4, 0), job(2, 0, 0, 10, 0))
	// Its own is the earliest.
	jobsAre(t, "flow a = m(x); flow b = n(a, a); output o = b deadline 6; output p = a deadline 3;", 1,
		job(0, 0, 0, 3), job(1, 0, 0, 6, 0))
	// Through several, each by its budget.
	jobsAre(t, "flow a = m(x); flow b = n(a, a); flow c = k(b, b, a); flow d = m(c); output o = d deadline 9;", 1,
		job(0, 0, 0, 3), job(1, 0, 0, 5, 0), job(2, 0, 0, 6, 0, 1), job(3, 0, 0, 9, 2))
	// Deadlines that are not even behind releases, or 0.
	jobsAre(t, "flow a = s(m(x));", 11, job(1, 0, 0, -5), job(0, 0, 0, 10, 0), job(1, 1, 10, 5), job(0, 1, 10, 20, 2))
	jobsAre(t, "flow a = s(s(s(x)));", 1, job(2, 0, 0, -20), job(1, 0, 0, -5, 0), job(0, 0, 0, 10, 1))
	// One that is needed later, by a slow one of the next date.
	jobsAre(t, "flow a = m(x); flow b = s(0 fby a);", 11,
		job(0, 0, 0, 5), job(1, 0, 0, 10), job(0, 1, 10, 20), job(1, 1, 10, 20, 0))
	// A row of such: each by the one behind it.
	jobsAre(t, "flow a = n(x, 0 fby a);", 31, job(0, 0, 0, 10), job(0, 1, 10, 20, 0), job(0, 2, 20, 30, 1), job(0, 3, 30, 40, 2))
}

// P11.1: a row of jobs that need each other, over many dates: each by all behind it.
func TestAdjustedFromTheLast(t *testing.T) {
	f := made(t, "node s(a, b) budget 15 { a } input x period 10; flow a = s(0 fby a, x); output o = a deadline 100;")
	jobsOf(t, "s", f, 41, job(0, 0, 0, -10), job(0, 1, 10, 5, 0), job(0, 2, 20, 20, 1), job(0, 3, 30, 35, 2), job(0, 4, 40, 50, 3))
	f.Tells[0].Deadline = 5
	jobsOf(t, "s, told", f, 41, job(0, 0, 0, -15), job(0, 1, 10, 0, 0), job(0, 2, 20, 15, 1), job(0, 3, 30, 30, 2), job(0, 4, 40, 45, 3))
}

// P11.1: who needs a job counts, if it is released below until.
func TestWhatNeedsAJobInTheWindow(t *testing.T) {
	s := "flow a = m(y); flow b = s(a ~> 1/2);"
	jobsAre(t, s, 50, job(0, 0, 40, 60))
	jobsAre(t, s, 51, job(0, 0, 40, 55), job(1, 0, 50, 70, 0))
	s = "flow a = m(x); flow b = s(0 fby a);"
	jobsAre(t, s, 10, job(0, 0, 0, 10), job(1, 0, 0, 10))
	jobsAre(t, s, 11, job(0, 0, 0, 5), job(1, 0, 0, 10), job(0, 1, 10, 20), job(1, 1, 10, 20, 0))
}

// P11.1: what is said counts, if it is below until at its date without the deadline.
func TestTellsInTheWindow(t *testing.T) {
	s := "flow a = m(x); flow b = a ~> 1/2; output o = b deadline 2;"
	jobsAre(t, s, 5, job(0, 0, 0, 10))
	jobsAre(t, s, 6, job(0, 0, 0, 7))
	jobsAre(t, s, 15, job(0, 0, 0, 7), job(0, 1, 10, 20))
	jobsAre(t, s, 16, job(0, 0, 0, 7), job(0, 1, 10, 17))
	// It is said behind until, but its date is below it.
	jobsAre(t, "flow a = m(x); output o = a deadline 8;", 1, job(0, 0, 0, 8))
	jobsAre(t, "flow a = m(x); output o = a deadline 8;", 11, job(0, 0, 0, 8), job(0, 1, 10, 18))
}

// P11.1: the places of those that it needs, rising, each once.
func TestNeeds(t *testing.T) {
	// One source in several arguments, by the same and by other operators.
	jobsAre(t, "flow a = m(x); flow b = k(a, 1 fby a, a);", 11,
		job(0, 0, 0, 9), job(1, 0, 0, 10, 0), job(0, 1, 10, 19), job(1, 1, 10, 20, 0, 2))
	jobsAre(t, "flow a = m(x); flow b = k(1 fby a, 2 fby a, 3 fby a);", 11,
		job(0, 0, 0, 10), job(1, 0, 0, 10), job(0, 1, 10, 20), job(1, 1, 10, 20, 0))
	// Arguments that name them falling.
	jobsAre(t, "flow a = m(x); flow b = n(x, x); flow c = k(b, a, 0 fby b);", 11,
		job(0, 0, 0, 9), job(1, 0, 0, 9), job(2, 0, 0, 10, 0, 1), job(0, 1, 10, 19), job(1, 1, 10, 19), job(2, 1, 10, 20, 1, 3, 4))
	// Inputs and numbers are no jobs.
	jobsAre(t, "flow a = k(x, 3 fby x, 4 fby a);", 11, job(0, 0, 0, 10), job(0, 1, 10, 20, 0))
	// As often, and each of as many.
	jobsAre(t, "flow a = m(x); flow b = m(a *^ 2);", 16,
		job(0, 0, 0, 2), job(1, 0, 0, 5, 0), job(1, 1, 5, 10, 0), job(0, 1, 10, 12), job(1, 2, 10, 15, 3), job(1, 3, 15, 20, 3))
	jobsAre(t, "flow a = m(x); flow b = m(a /^ 2);", 21,
		job(0, 0, 0, 10), job(1, 0, 0, 20, 0), job(0, 1, 10, 20), job(0, 2, 20, 30), job(1, 1, 20, 40, 3))
	jobsAre(t, "flow a = m(x); flow b = m(5 :: tail a);", 11,
		job(0, 0, 0, 10), job(1, 0, 0, 10), job(0, 1, 10, 17), job(1, 1, 10, 20, 2))
	jobsAre(t, "flow a = m(y); flow b = m(5 :: a);", 41,
		job(1, 0, 20, 40), job(0, 0, 40, 57), job(1, 1, 40, 60, 1))
}

// P11.1: of flat programs that none writes: the task's place in the list isn't its source's.
func TestNeedsWithoutInputs(t *testing.T) {
	f := api.Flat{
		Nodes: []api.Node{{Budget: 7, Params: []string{"a"}}, {Budget: 4, Params: []string{"a", "b"}}},
		Tasks: []api.Task{
			{Node: 1, Clock: every(6, 1), Args: []api.Arg{{Src: 1, Ops: []api.Op{op(api.EUnder, 2, 0)}}, {Src: 0, Ops: []api.Op{op(api.EFby, 1, 0)}}}},
			{Node: 0, Clock: every(3, 1), Args: []api.Arg{{Src: 1, Ops: []api.Op{op(api.EFby, 1, 0), op(api.EFby, 1, 0)}}}},
		},
	}
	jobsOf(t, f, f, 11,
		job(1, 0, 1, 2), job(0, 0, 1, 7, 0), job(1, 1, 4, 6), job(1, 2, 7, 9, 0), job(0, 1, 7, 13, 1, 3), job(1, 3, 10, 13, 2))
	windowOf(t, f, f, 1+3+3+3+3, 6)
}

// P11.1: more than MaxSlots jobs.
func TestManyJobs(t *testing.T) {
	f := made(t, "node m(a) budget 1 { a } input x period 1; input y period 1000; flow f = m(x); flow g = m(y /^ 2);")
	for _, until := range []int64{3998, 3999, 4000, last} {
		many := until + (until+1999)/2000
		l, err := deadline.Jobs(f, until)
		if many > api.MaxSlots {
			if err != api.ErrLimit || len(l) != 0 {
				t.Error(until, len(l), err)
			}
			continue
		}
		if err != api.OK || int64(len(l)) != many {
			t.Error(until, len(l), err)
		}
	}
	// All tasks' jobs count, one by one.
	f = made(t, "node m(a) budget 1 { a } input x period 5; flow f = m(x);")
	f.Tasks = slices.Repeat(f.Tasks, 2)
	if l, err := deadline.Jobs(f, 10000); err != api.OK || len(l) != api.MaxSlots {
		t.Error(len(l), err)
	}
	jobsRefused(t, "two tasks", f, 10001, api.ErrLimit)
	f.Tasks = slices.Repeat(f.Tasks, 15)
	jobsRefused(t, "most tasks", f, last, api.ErrLimit)
}

// P11.1: as many as may be, each of which needs all that it may.
func TestAsMuchAsMayBe(t *testing.T) {
	f := made(t, "node m(a) budget 1000 { a } input x period 5; flow f = m(x); output o = f deadline 1;")
	f.Tasks = slices.Repeat(f.Tasks, api.MaxTasks)
	for i := range f.Tasks {
		if i > 0 {
			f.Tasks[i].Args = []api.Arg{{Src: i}}
		}
	}
	f.Tells = slices.Repeat(f.Tells, 1000)
	for i := range f.Tells {
		f.Tells[i].Arg.Src, f.Tells[i].Deadline = 1+i%api.MaxTasks, int64(1+i)
	}
	l, err := deadline.Jobs(f, 665)
	if err != api.OK || len(l) != 133*api.MaxTasks {
		t.Fatal(len(l), err)
	}
	for i, j := range l {
		task := i % api.MaxTasks
		release := int64(5 * (i / api.MaxTasks))
		want := job(task, release/5, release, release+5-1000*int64(api.MaxTasks-1-task))
		if task > 0 {
			want.Needs = []int{i - 1}
		}
		if !same(j, want) {
			t.Fatal(i, j, want)
		}
	}
}

// P11.1: until from 0 to 20000.
func TestUntilThatCannotBe(t *testing.T) {
	f := made(t, head+"flow f = m(x); output o = f deadline 2;")
	for _, until := range []int64{-1, -2, -last, math.MinInt64, last + 1, last + 2, 1 << 40, math.MaxInt64} {
		jobsRefused(t, "right", f, until, api.ErrArg)
		jobsRefused(t, "nothing", api.Flat{}, until, api.ErrArg)
	}
	for _, until := range []int64{0, last} {
		if l, err := deadline.Jobs(f, until); err != api.OK || int64(len(l)) != until/10 {
			t.Error(until, len(l), err)
		}
	}
}

// P11.1, P11.2
func TestFlatsThatAreNotRight(t *testing.T) {
	for name, change := range map[string]func(*api.Flat){
		"input's clock":   func(f *api.Flat) { f.Inputs[2].Period = 0 },
		"budget":          func(f *api.Flat) { f.Nodes[3].Budget = api.MaxTicks + 1 },
		"no budget":       func(f *api.Flat) { f.Nodes[0].Budget = 0 },
		"no node":         func(f *api.Flat) { f.Tasks[0].Node = 4 },
		"node below 0":    func(f *api.Flat) { f.Tasks[0].Node = -1 },
		"few arguments":   func(f *api.Flat) { f.Tasks[0].Args = f.Tasks[0].Args[:1] },
		"no source":       func(f *api.Flat) { f.Tasks[0].Args[0].Src = 5 },
		"source below 0":  func(f *api.Flat) { f.Tasks[1].Args[0].Src = -1 },
		"task's clock":    func(f *api.Flat) { f.Tasks[1].Clock.Phase = 10 },
		"factor":          func(f *api.Flat) { f.Tasks[0].Args[1].Ops = []api.Op{op(api.EOver, 0, 0)} },
		"kind":            func(f *api.Flat) { f.Tasks[0].Args[1].Ops = []api.Op{op(api.EConst, 1, 1)} },
		"operators":       func(f *api.Flat) { f.Tasks[0].Args[1].Ops = slices.Repeat([]api.Op{op(api.EFby, 1, 0)}, 21) },
		"tasks":           func(f *api.Flat) { f.Tasks = append(f.Tasks, slices.Repeat(f.Tasks[:1], 29)...) },
		"tell's source":   func(f *api.Flat) { f.Tells[0].Arg.Src = 5 },
		"tell's clock":    func(f *api.Flat) { f.Tells[0].Clock = every(5, 0) },
		"tell's deadline": func(f *api.Flat) { f.Tells[0].Deadline = 0 },
	} {
		f := made(t, head+"flow f = n(m(x), 0 fby f); output o = f deadline 4;")
		change(&f)
		windowRefused(t, name, f, api.ErrArg)
		for _, until := range []int64{0, 1, 100, last, -1, last + 1} {
			jobsRefused(t, name, f, until, api.ErrArg)
		}
	}
}

// P11.1: the error that is named first, where several apply.
func TestJobsNamesTheFirstError(t *testing.T) {
	for _, s := range []string{"flow f = n(x, f);", "flow f = n(x, g); flow g = m(f);", "flow f = n(x, 0 :: tail f);", "input w period 1; flow f = n(x, f); flow g = m(w);"} {
		f := made(t, head+s)
		for _, until := range []int64{0, 1, 100, 5000, last} {
			jobsRefused(t, s, f, until, api.ErrCycle)
		}
		jobsRefused(t, s, f, -1, api.ErrArg)
		jobsRefused(t, s, f, last+1, api.ErrArg)
		f.Inputs[1].Phase = -1
		jobsRefused(t, s, f, 100, api.ErrArg)
	}
	f := made(t, head+"input w period 1; flow f = m(w);")
	jobsRefused(t, "too many", f, 4001, api.ErrLimit)
	jobsRefused(t, "too many", f, last+1, api.ErrArg)
	f.Tasks[0].Node = -1
	jobsRefused(t, "too many", f, 4001, api.ErrArg)
}

// P11.2: S, of one argument, is what its operators come to.
func TestWindow(t *testing.T) {
	for _, x := range []struct {
		s            string
		settled, all int64
	}{
		{"", 0, 1},
		{"flow f = m(x);", 0, 10},
		{"flow f = m(y);", 40, 20},
		{"flow f = m(z);", 10, 5},
		{"flow f = m(0 fby x);", 20, 10},
		{"flow f = m(0 fby 1 fby x);", 40, 10},
		{"flow f = m(0 fby y);", 80, 20},
		{"flow f = m(tail x);", 30, 10},
		{"flow f = m(1 :: y);", 60, 20},
		{"flow f = m(x *^ 5);", 12, 10},
		{"flow f = m(x /^ 3);", 40, 30},
		{"flow f = m(x ~> 1/2);", 25, 10},
		{"flow f = m(x ~> 0/1);", 20, 10},
		{"flow f = m(x *^ 5 /^ 15);", 44, 30},
		{"flow f = m(x *^ 5 /^ 2);", 18, 20},
		{"flow f = m((0 fby x /^ 2) *^ 4);", 95, 20},
		{"flow f = m(tail tail y);", 160, 20},
		// The greatest, not all of them.
		{"flow f = m(x); flow g = m(0 fby x); flow h = m(x /^ 3);", 40, 30},
		{"flow f = n(x, 0 fby x); flow g = m(0 fby f);", 20, 10},
		{"flow f = n(0 fby x, x);", 20, 10},
		// What an argument reads has its own.
		{"flow f = m(0 fby g); flow g = m(0 fby x);", 20, 10},
		// Flows aren't sources.
		{"flow f = m(0 fby g); flow g = 0 fby x;", 40, 10},
		{"flow f = m(y); flow g = m(z);", 40, 20},
		// Tells, with their deadlines.
		{"flow f = x; output o = f deadline 7;", 7, 10},
		{"flow f = m(x); output o = f deadline 7;", 7, 10},
		{"flow f = m(0 fby x); output o = f deadline 7;", 20, 10},
		{"flow f = m(x); flow g = 0 fby f; output o = g deadline 7;", 27, 10},
		{"flow f = m(y); flow g = f /^ 4; output o = g deadline 3;", 143, 80},
		{"flow f = y; output o = f deadline 1000; output p = f deadline 3;", 1040, 20},
		// What none reads doesn't count.
		{"flow f = 0 fby tail y;", 0, 1},
		{"input w period 997; flow f = m(x); flow g = w *^ 1;", 0, 10},
	} {
		windowIs(t, x.s, x.settled, x.all)
	}
	windowOf(t, "nothing", api.Flat{}, 0, 1)
	windowOf(t, "inputs alone", api.Flat{Inputs: []api.Clock{every(7, 2000), every(1999, 0)}}, 0, 1)
}

// P11.2: the clocks behind each operator count, not only the last one.
func TestHyperperiod(t *testing.T) {
	for _, x := range []struct {
		s   string
		all int64
	}{
		{"flow f = m(x /^ 7 *^ 7);", 70},
		{"flow f = m(x /^ 7 *^ 7 *^ 2);", 70},
		{"flow f = m(x *^ 10 /^ 7 *^ 7 /^ 10);", 70},
		{"flow f = m(x *^ 10 /^ 7);", 70},
		{"flow f = m(x); output o = g deadline 1; flow g = f /^ 9 *^ 9;", 90},
		{"flow f = m(x); output o = g deadline 1; flow g = x *^ 5 /^ 7;", 70},
		{"flow f = m(x); flow g = m(y /^ 3); flow h = m(z *^ 5 /^ 8);", 120},
		{"input w period 7; flow f = m(w); flow g = m(x);", 70},
		{"input w period 1000; flow f = m(w /^ 2); flow g = m(x);", 2000},
		{"input w period 16; input v period 125; flow f = m(w); flow g = m(v);", 2000},
	} {
		if _, all, err := deadline.Window(made(t, head+x.s)); all != x.all || err != api.OK {
			t.Errorf("%s: %d, %v; should be %d", x.s, all, err, x.all)
		}
	}
}

// P11.2: no hyperperiod of at most MaxHyper.
func TestNoHyperperiod(t *testing.T) {
	for _, s := range []string{
		"input w period 997; flow f = m(w); flow g = m(x);",
		"input w period 23; input v period 87; flow f = m(w); flow g = m(v);",
		"input w period 23; flow f = m(x /^ 9 *^ 9); flow g = m(w);",
		"input w period 23; flow f = x /^ 9 *^ 9; output o = f deadline 3; flow g = m(w);",
		"input w period 23; input v period 87; flow f = w; flow g = v; output o = f deadline 3; output p = g deadline 2;",
		"input w period 5; input v period 7; input u period 11; input t period 13; flow f = n(w, w); flow g = n(v, v); flow h = n(u, u); flow i = n(t, t);",
	} {
		windowRefused(t, s, made(t, head+s), api.ErrLimit)
	}
	windowIs(t, "input w period 22; input v period 83; flow f = m(w); flow g = m(v);", 0, 1826)
	windowIs(t, "input w period 23; input v period 86; flow f = m(w); flow g = m(v);", 0, 1978)
}

// P11.2: S is at most 4000.
func TestGreatestS(t *testing.T) {
	fby := op(api.EFby, 1, 0)
	read := func(c api.Clock, dead int64, ops ...api.Op) api.Flat {
		f := api.Flat{Inputs: []api.Clock{c}, Nodes: []api.Node{{Params: []string{""}, Budget: 1}}}
		if dead > 0 {
			f.Tells = []api.Tell{{Clock: c, Arg: api.Arg{Ops: ops}, Deadline: dead}}
			return f
		}
		f.Tasks = []api.Task{{Clock: c, Args: []api.Arg{{Ops: ops}}}}
		return f
	}
	windowOf(t, "one of 2000", read(every(2000, 0), 0, fby), 4000, 2000)
	windowRefused(t, "one of 2000", read(every(2000, 1), 0, fby), api.ErrLimit)
	windowRefused(t, "two of 2000", read(every(2000, 0), 0, fby, fby), api.ErrLimit)
	windowRefused(t, "twenty of 2000", read(every(2000, 2000), 0, slices.Repeat([]api.Op{fby}, 20)...), api.ErrLimit)
	windowOf(t, "twenty of 100", read(every(100, 0), 0, slices.Repeat([]api.Op{fby}, 20)...), 4000, 100)
	windowRefused(t, "twenty of 100", read(every(100, 1), 0, slices.Repeat([]api.Op{fby}, 20)...), api.ErrLimit)
	windowOf(t, "a phase", read(every(1, 2000), 0), 2000, 1)
	windowOf(t, "told", read(every(1000, 1000), 1000, fby), 4000, 1000)
	windowRefused(t, "told", read(every(1000, 1001), 1000, fby), api.ErrLimit)
	windowRefused(t, "told", read(every(1001, 1000), 999, fby), api.ErrLimit)
	windowOf(t, "told", read(every(1500, 0), 999, fby), 3999, 1500)
	windowRefused(t, "told", read(every(1501, 0), 999, fby), api.ErrLimit)
	// One that is too great is enough, whatever stands ahead of it, or behind.
	f := read(every(2000, 0), 0)
	f.Tells = []api.Tell{{Clock: every(2000, 0), Deadline: 1}, {Clock: every(2000, 0), Arg: api.Arg{Ops: []api.Op{fby}}, Deadline: 1}, {Clock: every(2000, 0), Deadline: 2}}
	windowRefused(t, "several", f, api.ErrLimit)
}

// P11.2: an order isn't asked for.
func TestWindowOfCycles(t *testing.T) {
	windowIs(t, "flow f = n(x, f);", 0, 10)
	windowIs(t, "flow f = n(x, 0 :: tail f);", 40, 10)
	windowIs(t, "input w period 1; flow f = m(w);", 0, 1)
}

// P11.2: of many tells, each clock counts, and each S.
func TestWindowOfManyTells(t *testing.T) {
	f := made(t, head+"flow f = m(x *^ 2); output o = f deadline 3;")
	f.Tells = slices.Repeat(f.Tells, 100000)
	windowOf(t, "many", f, 15, 10)
	f.Tells[99999].Deadline = 1000
	windowOf(t, "many", f, 1000, 10)
	f.Tells[99998] = api.Tell{Clock: every(400, 40), Arg: api.Arg{Src: 1, Ops: []api.Op{op(api.EUnder, 20, 0)}}, Deadline: 1}
	windowOf(t, "many", f, 1000, 400)
}

// R1: numbers from end to end.
func TestEndsOfWhateverIsHandedIn(t *testing.T) {
	for _, n := range []int{math.MinInt, -1, 0, 1, 2, math.MaxInt} {
		a := api.Arg{Src: n, Ops: []api.Op{op(n, int64(n), int64(n))}}
		c := every(int64(n), int64(n))
		f := api.Flat{
			Inputs: []api.Clock{c}, Nodes: []api.Node{{Budget: int64(n)}, {Params: []string{""}, Budget: 1}},
			Tasks: []api.Task{{Node: n, Clock: c, Args: []api.Arg{a}}}, Tells: []api.Tell{{Clock: c, Arg: a, Deadline: int64(n)}},
		}
		windowRefused(t, n, f, api.ErrArg)
		for _, until := range []int64{math.MinInt64, -1, 0, 1, last, math.MaxInt64} {
			jobsRefused(t, n, f, until, api.ErrArg)
		}
	}
}

// spare is an operator that stands in spare room.
var spare = api.Op{Kind: api.EFby, N: 77}

// withSpare is the flat program, with spare room behind the operators of its tasks' arguments.
func withSpare(f api.Flat) api.Flat {
	for i := range f.Tasks {
		for j, a := range f.Tasks[i].Args {
			f.Tasks[i].Args[j].Ops = append(slices.Clone(a.Ops), spare)[:len(a.Ops)]
		}
	}
	return f
}

// R5: what is handed in is left as it is, its spare room too, and isn't kept; what is answered is new memory, of which no two lists share any.
func TestLeavesWhatIsHandedIn(t *testing.T) {
	s := head + "flow f = n(m(x), 0 fby f); flow g = k(f, 0 fby f, 0 fby g); output o = f deadline 4; output p = g deadline 20;"
	f, kept := withSpare(made(t, s)), withSpare(made(t, s))
	l, err := deadline.Jobs(f, 40)
	if _, _, e := deadline.Window(f); e != api.OK || err != api.OK || len(l) != 12 {
		t.Fatal(l, err, e)
	}
	for i := range f.Tasks {
		for j, a := range f.Tasks[i].Args {
			if a.Ops[:len(a.Ops)+1][len(a.Ops)] != spare {
				t.Error("spare room", i, j)
			}
		}
	}
	if !reflect.DeepEqual(f, kept) {
		t.Error("changed", f)
	}
	before := slices.Clone(l)
	for i, j := range l {
		before[i].Needs = slices.Clone(j.Needs)
	}
	f.Tells[0].Deadline, f.Tasks[0].Node, f.Tasks[0].Args[0].Src = 7, 9, 5
	if !slices.EqualFunc(l, before, same) {
		t.Error("kept", l)
	}
	for i, j := range l {
		all := j.Needs[:cap(j.Needs)]
		for p := range all {
			all[p] = 1000 + i
		}
	}
	for i, j := range l {
		for _, p := range j.Needs {
			if p != 1000+i {
				t.Error("shared", l)
			}
		}
	}
	if l, err := deadline.Jobs(kept, 40); err != api.OK || !slices.EqualFunc(l, before, same) {
		t.Error("kept from call to call", l)
	}
}

// P11.3: a long chain, whose jobs each need the one ahead.
func TestLongChain(t *testing.T) {
	l, err := deadline.Jobs(made(t, head+"flow f = "+strings.Repeat("m(", 8)+"x"+strings.Repeat(")", 8)+";"), 1)
	if err != api.OK || len(l) != 8 {
		t.Fatal(l, err)
	}
	for i, j := range l {
		if j.Task != 7-i || j.Deadline != int64(10-3*(7-i)) || i > 0 && !slices.Equal(j.Needs, []int{i - 1}) {
			t.Error(i, j)
		}
	}
}
