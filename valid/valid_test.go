package valid_test

import (
	"math"
	"reflect"
	"slices"
	"testing"

	"horarium/api"
	"horarium/sample"
	"horarium/sched"
	"horarium/valid"
)

// maxJob is the greatest number of a slot's job.
const maxJob = 100000

// head is nodes m, n and s, which is slow, of one parameter, and k of two, and inputs; y alone doesn't come at once.
const head = "node m(a) budget 3 { a } node n(a) budget 2 { a } node k(a, b) budget 1 { a + b } node s(a) budget 8 { a } " +
	"input x period 10; input y period 20 phase 40; input z period 5; "

// chain is of tasks 0, n, and 1, m, each 10 ticks; m's job stands ahead of n's, and their deadlines are 8 and 10.
const chain = "flow f = n(m(x));"

func every(period, phase int64) api.Clock { return api.Clock{Period: period, Phase: phase} }

// slot is that of the task's job.
func slot(task, job int, start int64) api.Slot {
	return api.Slot{Task: task, Job: job, Start: start}
}

// made is the text's program, behind the head, made flat.
func made(t *testing.T, s string) api.Flat {
	t.Helper()
	f, is := sample.Made(head + s)
	if !is {
		t.Fatal(s)
	}
	return f
}

// whyOf asks for what is wrong with the plan, and whether it is well.
func whyOf(t *testing.T, f api.Flat, p sched.Plan, kind, place int) {
	t.Helper()
	if k, at := valid.Why(f, p); k != kind || at != place {
		t.Errorf("%v: %d, %d; should be %d, %d", p, k, at, kind, place)
	}
	if well := valid.Well(f, p); well != (kind == 0) {
		t.Errorf("%v: %v", p, well)
	}
}

// asker asks of plans of the flat program's, all with its S and H.
func asker(t *testing.T, f api.Flat, s, h int64) func(kind, place int, slots ...api.Slot) {
	return func(kind, place int, slots ...api.Slot) {
		t.Helper()
		whyOf(t, f, sched.Plan{S: s, H: h, Slots: slots}, kind, place)
	}
}

// P13.1: the chapter's example.
func TestExample(t *testing.T) {
	f := made(t, "flow f = m(y);")
	p, err := sched.Make(f)
	if err != api.OK || len(p.Slots) != 1 || p.Slots[0] != slot(0, 0, 40) {
		t.Fatal(p, err)
	}
	whyOf(t, f, p, 0, -1)
	p.Slots[0].Start--
	whyOf(t, f, p, 3, 0)
}

// P13.2: what Make makes.
func TestMadeIsWell(t *testing.T) {
	for _, s := range []string{
		"",
		"flow f = x; output o = f deadline 7;",
		chain,
		"flow f = m(x); flow g = n(y);",
		"flow f = m(x); flow g = n(z);",
		"flow f = k(x, 0 fby f); output o = f deadline 4;",
		"flow a = m(n(z) /^ 2);",
		"flow a = n(m(x) *^ 2); output o = a deadline 5;",
		"flow b = s(0 fby a); flow a = n(x);",
		"flow a = m(x); flow b = n(x); output o = b deadline 2;",
		"flow f = m(n(n(m(x)))); output o = f deadline 10;",
	} {
		f := made(t, s)
		p, err := sched.Make(f)
		if err != api.OK {
			t.Fatal(s, err)
		}
		whyOf(t, f, p, 0, -1)
	}
	f := sample.Row([]int64{10, 10}, every(20, 0), every(20, 10))
	p, err := sched.Make(f)
	if err != api.OK || p.S != 10 {
		t.Fatal(p, err)
	}
	whyOf(t, f, p, 0, -1)
}

// P13.1: other plans than Make's are well, too.
func TestWellOtherwise(t *testing.T) {
	why := asker(t, made(t, chain), 0, 10)
	why(0, -1, slot(1, 0, 0), slot(0, 0, 3))
	why(0, -1, slot(1, 0, 0), slot(0, 0, 8))
	why(0, -1, slot(1, 0, 5), slot(0, 0, 8))
	why = asker(t, made(t, "flow f = m(x); flow g = n(z);"), 0, 10)
	why(0, -1, slot(1, 0, 3), slot(1, 1, 5), slot(0, 0, 7))
	// Each job ahead of S by itself.
	why = asker(t, made(t, "flow f = k(x, 0 fby f);"), 20, 10)
	why(0, -1, slot(0, 0, 9), slot(0, 1, 13), slot(0, 2, 21))
	// A job's slot need not start in the hyperperiod in which it is released.
	late := sample.Row([]int64{3}, every(10, 9))
	late.Inputs = append(late.Inputs, every(10, 20))
	late.Tells = []api.Tell{{Clock: every(10, 20), Arg: api.Arg{Src: 1}, Deadline: 5}}
	why = asker(t, late, 25, 10)
	why(0, -1, slot(0, 0, 16), slot(0, 1, 26))
	why(0, -1, slot(0, 0, 16), slot(0, 1, 22), slot(0, 2, 32))
	why(3, 2, slot(0, 0, 16), slot(0, 1, 22))
	why(3, 1, slot(0, 0, 16), slot(0, 2, 32))
}

// P13.1: S and H are the window's, to the tick.
func TestWindow(t *testing.T) {
	f := made(t, "flow f = m(x); output o = f deadline 3;")
	slots := []api.Slot{slot(0, 0, 0), slot(0, 1, 10)}
	for _, x := range []struct {
		s, h int64
		kind int
	}{
		{3, 10, 0}, {2, 10, 1}, {4, 10, 1}, {3, 9, 1}, {3, 11, 1}, {3, 20, 1}, {10, 3, 1}, {13, 10, 1}, {0, 0, 1}, {-3, 10, 1}, {3, -10, 1}, {3, 0, 1},
		{math.MaxInt64, 10, 1}, {3, math.MaxInt64, 1}, {math.MinInt64, math.MinInt64, 1},
	} {
		whyOf(t, f, sched.Plan{S: x.s, H: x.h, Slots: slots}, x.kind, -1)
	}
	// Twice the hyperperiod is another plan, though the same slots come of it.
	whyOf(t, made(t, "flow f = m(x);"), sched.Plan{H: 20, Slots: slots}, 1, -1)
}

// P13.1: of no tasks, and of none that reads anything.
func TestNoSlots(t *testing.T) {
	for _, slots := range [][]api.Slot{nil, {}} {
		whyOf(t, api.Flat{}, sched.Plan{H: 1, Slots: slots}, 0, -1)
		whyOf(t, made(t, ""), sched.Plan{H: 1, Slots: slots}, 0, -1)
		whyOf(t, made(t, "flow f = x; output o = f deadline 7;"), sched.Plan{S: 7, H: 10, Slots: slots}, 0, -1)
		whyOf(t, made(t, chain), sched.Plan{H: 10, Slots: slots}, 3, 0)
	}
	whyOf(t, api.Flat{}, sched.Plan{}, 1, -1)
	whyOf(t, api.Flat{}, sched.Plan{H: 1, Slots: []api.Slot{{}}}, 1, -1)
}

// P13.1: starts rise, from 0 on, below S and H.
func TestStarts(t *testing.T) {
	why := asker(t, made(t, chain), 0, 10)
	why(1, -1, slot(1, 0, -1), slot(0, 0, 3))
	why(1, -1, slot(1, 0, 3), slot(0, 0, 0))
	why(1, -1, slot(1, 0, 3), slot(0, 0, 2))
	why(1, -1, slot(1, 0, 3), slot(0, 0, 3))
	why(2, 1, slot(1, 0, 3), slot(0, 0, 4))
	why(1, -1, slot(1, 0, 0), slot(0, 0, 10))
	why(2, 2, slot(1, 0, 0), slot(0, 0, 9))
	for _, start := range []int64{math.MinInt64, -20001, 11, 20000, 20001, math.MaxInt64} {
		why(1, -1, slot(1, 0, start))
		why(1, -1, slot(1, 0, 0), slot(0, 0, start))
	}
	why = asker(t, made(t, "flow f = m(x); output o = f deadline 10;"), 10, 10)
	why(0, -1, slot(0, 0, 0), slot(0, 1, 17))
	why(1, -1, slot(0, 0, 0), slot(0, 1, 20))
	why(3, 1, slot(0, 0, 0), slot(0, 1, 19))
}

// P13.1: each slot is of a task, and of a job whose number can be.
func TestTasksAndJobs(t *testing.T) {
	why := asker(t, made(t, chain), 0, 10)
	for _, task := range []int{math.MinInt, -1, 2, 3, math.MaxInt} {
		why(1, -1, slot(task, 0, 0), slot(0, 0, 3))
		why(1, -1, slot(1, 0, 0), slot(0, 0, 3), slot(task, 0, 6))
	}
	for _, job := range []int{math.MinInt, -1, maxJob + 1, math.MaxInt} {
		why(1, -1, slot(1, job, 0), slot(0, 0, 3))
		why(1, -1, slot(1, 0, 0), slot(0, job, 3))
		why(1, -1, slot(1, 0, 0), slot(0, 0, 3), slot(1, job, 6))
	}
	for _, job := range []int{1, 2, 7, maxJob} {
		why(3, 0, slot(1, job, 0), slot(0, 0, 3))
		why(3, 1, slot(1, 0, 0), slot(0, job, 3))
	}
}

// P13.1: no two slots overlap, expanded: the place is the later one's.
func TestOverlaps(t *testing.T) {
	f := made(t, chain)
	why := asker(t, f, 0, 10)
	why(2, 1, slot(1, 0, 0), slot(0, 0, 1))
	why(2, 1, slot(1, 0, 0), slot(0, 0, 2))
	why(2, 1, slot(0, 0, 0), slot(1, 0, 1))
	// With the first one that comes again.
	why(0, -1, slot(1, 0, 0), slot(0, 0, 8))
	why(2, 2, slot(1, 0, 0), slot(0, 0, 9))
	// Each lasts its own budget, whatever its deadline.
	f.Nodes[0].Budget = 5
	why(0, -1, slot(1, 0, 0), slot(0, 0, 5))
	why(2, 1, slot(1, 0, 0), slot(0, 0, 4))
	f.Nodes[0].Budget = 11
	why(2, 1, slot(1, 0, 0))
	f.Nodes[0].Budget = 1000
	why(2, 1, slot(1, 0, 0), slot(0, 0, 9))
}

// P13.1: what starts ahead of S doesn't come again.
func TestOverlapsAheadOfS(t *testing.T) {
	why := asker(t, sample.Row([]int64{10, 10}, every(20, 0), every(20, 10)), 10, 20)
	why(0, -1, slot(0, 0, 0), slot(1, 0, 10), slot(0, 1, 20))
	why(2, 1, slot(0, 0, 1), slot(1, 0, 10), slot(0, 1, 20))
	why(2, 2, slot(0, 0, 0), slot(1, 0, 11), slot(0, 1, 20))
	why(2, 3, slot(0, 0, 0), slot(1, 0, 10), slot(0, 1, 21))
	why(2, 3, slot(0, 0, 0), slot(1, 0, 10), slot(0, 1, 29))
}

// P13.1: no job has two slots, expanded: the place is the later one's.
func TestTwice(t *testing.T) {
	why := asker(t, made(t, chain), 0, 10)
	why(2, 1, slot(1, 0, 0), slot(1, 0, 3))
	why(2, 2, slot(1, 0, 0), slot(0, 0, 3), slot(1, 0, 5))
	why(2, 2, slot(1, 0, 0), slot(0, 0, 3), slot(0, 0, 8))
	// With one that comes again.
	why(2, 3, slot(1, 0, 0), slot(0, 0, 3), slot(1, 1, 5))
	why(2, 4, slot(1, 0, 0), slot(0, 0, 3), slot(0, 1, 8))
	why(2, 6, slot(1, 0, 0), slot(0, 0, 3), slot(1, 2, 5))
	// What overlaps, and what is there twice: the first of all.
	why(2, 2, slot(1, 0, 0), slot(0, 0, 3), slot(0, 0, 5), slot(1, 2, 6))
	why(2, 1, slot(1, 0, 0), slot(0, 0, 2), slot(0, 0, 5))
	why(2, 1, slot(1, 0, 0), slot(1, 0, 2))
}

// P13.1: each of a task's jobs is one of its jobs, also one that comes behind all that is asked.
func TestJobsThatComeLater(t *testing.T) {
	why := asker(t, made(t, chain), 0, 10)
	for _, job := range []int{3, 4, maxJob} {
		why(0, -1, slot(1, 0, 0), slot(0, 0, 3), slot(1, job, 5))
	}
	why(1, -1, slot(1, 0, 0), slot(0, 0, 3), slot(1, maxJob+1, 5))
}

// P13.1: each job has a slot.
func TestMissing(t *testing.T) {
	why := asker(t, made(t, chain), 0, 10)
	why(3, 0)
	why(3, 1, slot(1, 0, 0))
	why(3, 0, slot(0, 0, 3))
	// Of jobs of several dates, and ahead of S, too; those behind S alone come again.
	why = asker(t, made(t, "flow f = k(x, 0 fby f);"), 20, 10)
	why(0, -1, slot(0, 0, 0), slot(0, 1, 10), slot(0, 2, 20))
	why(3, 0, slot(0, 1, 10), slot(0, 2, 20))
	why(3, 1, slot(0, 0, 0), slot(0, 2, 20))
	why(3, 2, slot(0, 0, 0), slot(0, 1, 10))
	why(3, 2, slot(0, 0, 0), slot(0, 1, 10), slot(0, 3, 20))
}

// P13.1: a slot starts at its job's release, or later, and ends at its deadline, or earlier.
func TestReleasesAndDeadlines(t *testing.T) {
	why := asker(t, made(t, "flow f = m(y);"), 40, 20)
	for start := int64(0); start < 60; start++ {
		if start >= 40 && start <= 57 {
			why(0, -1, slot(0, 0, start))
		} else {
			why(3, 0, slot(0, 0, start))
		}
	}
	why = asker(t, made(t, "flow f = m(x); output o = f deadline 5;"), 5, 10)
	why(0, -1, slot(0, 0, 2), slot(0, 1, 12))
	why(3, 0, slot(0, 0, 3), slot(0, 1, 12))
	why(3, 1, slot(0, 0, 2), slot(0, 1, 13))
	why(3, 1, slot(0, 0, 2), slot(0, 1, 9))
	// Twice each hyperperiod, and the second one strays.
	why = asker(t, made(t, "flow f = m(x); flow g = n(z);"), 0, 10)
	why(3, 1, slot(0, 0, 0), slot(1, 0, 4), slot(1, 1, 6))
	why(3, 2, slot(1, 0, 0), slot(1, 1, 2), slot(0, 0, 4))
}

// P13.1: deadlines are adjusted, by what is released later, too.
func TestAdjustedDeadlines(t *testing.T) {
	why := asker(t, made(t, chain), 0, 10)
	why(3, 1, slot(0, 0, 0), slot(1, 0, 5))
	why(3, 0, slot(0, 0, 0), slot(1, 0, 6))
	// b's jobs end 8 ticks behind the release of those of a that they need.
	why = asker(t, made(t, "flow a = m(x); flow b = n(a ~> 1/2); output o = b deadline 3;"), 25, 10)
	why(0, -1, slot(0, 0, 3), slot(1, 0, 6), slot(0, 1, 13), slot(1, 1, 16), slot(0, 2, 23), slot(1, 2, 26), slot(0, 3, 33))
	why(3, 0, slot(0, 0, 4), slot(1, 0, 7), slot(0, 1, 13), slot(1, 1, 16), slot(0, 2, 23), slot(1, 2, 26), slot(0, 3, 33))
	why(3, 1, slot(0, 0, 3), slot(1, 0, 7), slot(0, 1, 13), slot(1, 1, 16), slot(0, 2, 23), slot(1, 2, 26), slot(0, 3, 33))
	why(3, 2, slot(0, 0, 3), slot(1, 0, 6), slot(0, 1, 14), slot(1, 1, 17), slot(0, 2, 23), slot(1, 2, 26), slot(0, 3, 33))
}

// P13.1: a slot starts where all that its job needs have ended.
func TestNeeds(t *testing.T) {
	why := asker(t, made(t, chain), 0, 10)
	why(3, 1, slot(0, 0, 0), slot(1, 0, 2))
	// Each of several.
	why = asker(t, made(t, "flow a = k(b, c); flow b = n(x); flow c = m(x);"), 0, 10)
	why(0, -1, slot(1, 0, 0), slot(2, 0, 2), slot(0, 0, 5))
	why(0, -1, slot(2, 0, 0), slot(1, 0, 3), slot(0, 0, 5))
	why(3, 2, slot(1, 0, 0), slot(0, 0, 2), slot(2, 0, 3))
	why(3, 2, slot(2, 0, 0), slot(0, 0, 3), slot(1, 0, 4))
	why(3, 2, slot(0, 0, 0), slot(1, 0, 1), slot(2, 0, 3))
	// Of another clock, ahead of S and behind it.
	why = asker(t, made(t, "flow a = m(x); flow b = n(a ~> 1/2);"), 25, 10)
	why(0, -1, slot(0, 0, 0), slot(1, 0, 5), slot(0, 1, 10), slot(1, 1, 15), slot(0, 2, 20), slot(1, 2, 25), slot(0, 3, 30))
	why(3, 1, slot(1, 0, 5), slot(0, 0, 7), slot(0, 1, 10), slot(1, 1, 15), slot(0, 2, 20), slot(1, 2, 25), slot(0, 3, 30))
	why(3, 3, slot(0, 0, 0), slot(1, 0, 5), slot(1, 1, 15), slot(0, 1, 17), slot(0, 2, 20), slot(1, 2, 25), slot(0, 3, 30))
	why(3, 5, slot(0, 0, 0), slot(1, 0, 5), slot(0, 1, 10), slot(1, 1, 15), slot(1, 2, 25), slot(0, 2, 27))
	// What isn't needed may run in any order.
	why = asker(t, made(t, "flow a = m(x); flow b = n(0 fby a);"), 20, 10)
	why(0, -1, slot(0, 0, 0), slot(1, 0, 3), slot(1, 1, 10), slot(0, 1, 12), slot(0, 2, 20), slot(1, 2, 23))
}

// P13.1: what is named first, where several are wrong.
func TestNamesTheFirst(t *testing.T) {
	f := made(t, chain)
	// S, and an overlap, and jobs without slots.
	whyOf(t, f, sched.Plan{S: 1, H: 10, Slots: []api.Slot{slot(1, 0, 0), slot(1, 0, 1)}}, 1, -1)
	why := asker(t, f, 0, 10)
	// A task that isn't, behind an overlap, and behind a job that is there twice.
	why(1, -1, slot(1, 0, 0), slot(0, 0, 1), slot(2, 0, 5))
	why(1, -1, slot(1, 0, 0), slot(1, 0, 3), slot(0, -1, 6))
	// An overlap in the last hyperperiod, and a job without a slot in the first one.
	why(2, 5, slot(1, 2, 0), slot(1, 0, 4))
	// The first of two overlaps, and of two jobs.
	why(2, 1, slot(1, 0, 0), slot(0, 0, 2), slot(1, 4, 3))
	why(3, 0, slot(0, 0, 0))
	why(3, 0, slot(0, 0, 0), slot(1, 0, 7))
}

// P13.1: no plan is well for what has no window, or no jobs.
func TestNoJobs(t *testing.T) {
	for name, change := range map[string]func(*api.Flat){
		"input's clock":   func(f *api.Flat) { f.Inputs[2].Period = 0 },
		"budget":          func(f *api.Flat) { f.Nodes[3].Budget = api.MaxTicks + 1 },
		"no budget":       func(f *api.Flat) { f.Nodes[3].Budget = 0 },
		"no node":         func(f *api.Flat) { f.Tasks[0].Node = 4 },
		"no source":       func(f *api.Flat) { f.Tasks[0].Args[0].Src = 5 },
		"operator":        func(f *api.Flat) { f.Tasks[0].Args[0].Ops = []api.Op{{Kind: api.EConst, N: 1, D: 1}} },
		"tell's deadline": func(f *api.Flat) { f.Tells[0].Deadline = 0 },
		"circle":          func(f *api.Flat) { f.Tasks[1].Args[0].Src = 3 },
	} {
		f := made(t, chain+" output o = f deadline 10;")
		p, err := sched.Make(f)
		if err != api.OK || !valid.Well(f, p) {
			t.Fatal(p, err)
		}
		change(&f)
		if kind, at := valid.Why(f, p); kind != 1 || at != -1 || valid.Well(f, p) {
			t.Error(name, kind, at)
		}
		whyOf(t, f, sched.Plan{}, 1, -1)
	}
	f := sample.Row([]int64{1, 1}, every(997, 0), every(10, 0))
	for _, h := range []int64{0, 1, 9970} {
		whyOf(t, f, sched.Plan{H: h}, 1, -1)
		whyOf(t, f, sched.Plan{H: h, Slots: []api.Slot{slot(0, 0, 0), slot(1, 0, 1)}}, 1, -1)
	}
}

// P13.1: there are jobs, as long as those up to S and three times H are at most MaxSlots.
func TestManyJobs(t *testing.T) {
	f := sample.Row([]int64{1}, every(1, 0))
	f.Inputs = append(f.Inputs, every(1333, 0))
	f.Tells = []api.Tell{{Clock: every(1333, 0), Arg: api.Arg{Src: 1}, Deadline: 1}}
	p := sched.Plan{S: 1, H: 1333}
	for i := range 1334 {
		p.Slots = append(p.Slots, slot(0, i, int64(i)))
	}
	whyOf(t, f, p, 0, -1)
	f.Tells[0].Deadline = 2
	p.S, p.Slots = 2, append(p.Slots, slot(0, 1334, 1334))
	whyOf(t, f, p, 1, -1)
}

// P13.1: a plan has at most MaxSlots slots.
func TestManySlots(t *testing.T) {
	f := sample.Row([]int64{1}, every(2000, 0))
	f.Inputs = append(f.Inputs, every(500, 2000))
	fby := []api.Op{{Kind: api.EFby}}
	f.Tells = []api.Tell{{Clock: every(500, 2000), Arg: api.Arg{Src: 1, Ops: fby}, Deadline: api.MaxTicks}}
	p := sched.Plan{S: 4000, H: 2000}
	for start := range api.MaxSlots {
		p.Slots = append(p.Slots, slot(0, 10+10*start, int64(start)))
	}
	p.Slots[0].Job, p.Slots[2000].Job = 0, 1
	p.Slots[api.MaxSlots-1] = slot(0, 2, 4000)
	whyOf(t, f, p, 0, -1)
	p.Slots = append(p.Slots, slot(0, 99999, 4001))
	whyOf(t, f, p, 1, -1)
}

// R1: whatever is handed in.
func TestEndsOfWhateverIsHandedIn(t *testing.T) {
	numbers := []int64{math.MinInt64, math.MinInt64 + 1, -1, 0, 1, 2, 10, maxJob, maxJob + 1, 1 << 40, math.MaxInt64 - 1, math.MaxInt64}
	f := made(t, chain)
	broken := made(t, chain)
	broken.Tasks[0].Clock.Period = 0
	broken.Tasks[1].Clock.Period = -1
	for _, a := range numbers {
		for _, b := range numbers {
			for _, g := range []api.Flat{f, broken, {}} {
				valid.Why(g, sched.Plan{S: a, H: b, Slots: []api.Slot{slot(0, 0, 0)}})
				for _, c := range numbers {
					valid.Why(g, sched.Plan{H: 10, Slots: []api.Slot{slot(int(a), int(b), c), slot(0, 0, 5)}})
					valid.Why(g, sched.Plan{H: 10, Slots: []api.Slot{slot(0, 0, 0), slot(int(a), int(b), c)}})
				}
			}
		}
		arg := api.Arg{Src: int(a), Ops: []api.Op{{Kind: int(a), N: a, D: a}}}
		g := api.Flat{
			Inputs: []api.Clock{every(a, a)},
			Nodes:  []api.Node{{Params: []string{""}, Budget: a}},
			Tasks:  []api.Task{{Node: int(a), Clock: every(a, a), Args: []api.Arg{arg}}},
			Tells:  []api.Tell{{Clock: every(a, a), Arg: arg, Deadline: a}},
		}
		whyOf(t, g, sched.Plan{H: 10, Slots: []api.Slot{slot(0, 0, 0)}}, 1, -1)
	}
}

// R5: what is handed in is left as it is, its spare room too, and isn't kept.
func TestLeavesWhatIsHandedIn(t *testing.T) {
	f, kept := made(t, chain), made(t, chain)
	room := []api.Slot{slot(1, 0, 0), slot(0, 0, 3), slot(9, 9, 9)}
	p := sched.Plan{H: 10, Slots: room[:2]}
	whyOf(t, f, p, 0, -1)
	if !reflect.DeepEqual(f, kept) || !slices.Equal(room, []api.Slot{slot(1, 0, 0), slot(0, 0, 3), slot(9, 9, 9)}) {
		t.Error("changed", f, room)
	}
	p.Slots[1].Start = 2
	whyOf(t, f, p, 2, 1)
	p.Slots[1].Start = 3
	whyOf(t, f, p, 0, -1)
	f.Nodes[0].Budget = 4
	whyOf(t, f, p, 2, 1)
	whyOf(t, kept, p, 0, -1)
}
