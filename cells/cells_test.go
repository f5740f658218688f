package cells_test

import (
	"math"
	"reflect"
	"slices"
	"testing"

	"horarium/api"
	"horarium/cells"
	"horarium/deadline"
	"horarium/sample"
	"horarium/sched"
	"horarium/valid"
)

// head is nodes m, n and s, which is slow, of one parameter, and k of two, and inputs; y alone doesn't come at once.
const head = "node m(a) budget 3 { a } node n(a) budget 2 { a } node k(a, b) budget 1 { a + b } node s(a) budget 8 { a } " +
	"input x period 10; input y period 20 phase 40; input z period 5; "

// chain is of tasks 0, n, and 1, m, each 10 ticks.
const chain = "flow f = n(m(x));"

func every(period, phase int64) api.Clock { return api.Clock{Period: period, Phase: phase} }
func op(kind int, n, d int64) api.Op      { return api.Op{Kind: kind, N: n, D: d} }

// slot is that of the task's job.
func slot(task, job int, start int64) api.Slot {
	return api.Slot{Task: task, Job: job, Start: start}
}

// use is the last one of the task's job.
func use(task int, job, last int64) cells.Use {
	return cells.Use{Task: task, Job: job, Last: last}
}

// made is the text's program, behind the head, made flat.
func made(t *testing.T, s string) api.Flat {
	t.Helper()
	f, is := sample.Made(head + s)
	if !is {
		t.Fatal(s)
	}
	return f
}

// planOf is the plan that is made of the flat program.
func planOf(t *testing.T, f api.Flat) sched.Plan {
	t.Helper()
	p, err := sched.Make(f)
	if err != api.OK {
		t.Fatal(f, err)
	}
	return p
}

// given is a plan of the slots, which must be well.
func given(t *testing.T, f api.Flat, slots ...api.Slot) sched.Plan {
	t.Helper()
	s, h, err := deadline.Window(f)
	p := sched.Plan{S: s, H: h, Slots: slots}
	if err != api.OK || !valid.Well(f, p) {
		t.Fatal(p, err)
	}
	return p
}

// horizon is the last time up to which can be asked.
func horizon(p sched.Plan) int64 {
	return 2*p.S + 3*p.H
}

func countOf(t *testing.T, f api.Flat, p sched.Plan, want ...int) {
	t.Helper()
	if l, err := cells.Count(f, p); err != api.OK || !slices.Equal(l, want) {
		t.Errorf("%v: %v, %v; should be %v", p, l, err, want)
	}
}

// countIs asks of the plan that is made of the text, behind the head.
func countIs(t *testing.T, text string, want ...int) {
	t.Helper()
	f := made(t, text)
	p := planOf(t, f)
	if l, err := cells.Count(f, p); err != api.OK || !slices.Equal(l, want) {
		t.Errorf("%s %v: %v, %v; should be %v", text, p, l, err, want)
	}
}

func usesOf(t *testing.T, f api.Flat, p sched.Plan, until int64, want ...cells.Use) {
	t.Helper()
	if l, err := cells.Uses(f, p, until); err != api.OK || !slices.Equal(l, want) {
		t.Errorf("%v up to %d:\n%v, %v; should be\n%v", p, until, l, err, want)
	}
}

func countRefused(t *testing.T, f api.Flat, p sched.Plan) {
	t.Helper()
	if l, err := cells.Count(f, p); err != api.ErrArg || len(l) != 0 {
		t.Errorf("%v: %v, %v", p, l, err)
	}
}

func usesRefused(t *testing.T, f api.Flat, p sched.Plan, until int64) {
	t.Helper()
	if l, err := cells.Uses(f, p, until); err != api.ErrArg || len(l) != 0 {
		t.Errorf("%v up to %d: %v, %v", p, until, l, err)
	}
}

// P15.1: the chapter's example.
func TestExample(t *testing.T) {
	f := made(t, "flow g = m(x); flow f = n(0 fby g);")
	// g's job ends behind the start of the reader of the one ahead.
	p := given(t, f, slot(0, 0, 0), slot(1, 0, 3), slot(1, 1, 10), slot(0, 1, 12), slot(1, 2, 20), slot(0, 2, 22))
	countOf(t, f, p, 1, 1)
	usesOf(t, f, p, 22, use(0, 0, 10), use(0, 1, 20))
	// It ends just when the reader starts: what ends is put first.
	p = given(t, f, slot(0, 0, 0), slot(1, 0, 3), slot(0, 1, 10), slot(1, 1, 13), slot(0, 2, 20), slot(1, 2, 23))
	countOf(t, f, p, 2, 1)
	usesOf(t, f, p, 24, use(0, 0, 13), use(0, 1, 23))
}

// P15.1: the whole's example 3, and others that read later.
func TestReadLater(t *testing.T) {
	countIs(t, "flow g = m(x); flow f = n(g ~> 2/1);", 3, 1)
	countIs(t, "flow g = m(x); flow f = n(g ~> 1/1);", 2, 1)
	countIs(t, "flow g = m(x); flow f = n(g ~> 4/1);", 5, 1)
	countIs(t, "flow g = m(x); flow f = n(g ~> 1/2);", 1, 1)
	countIs(t, "flow g = m(x); flow f = n(1 fby 2 fby g);", 3, 1)
	countIs(t, "flow g = m(x); flow f = k(g ~> 3/1, 0 fby x ~> 3/1);", 4, 1)
	// By several of one task, and by several tasks: the latest of all.
	countIs(t, "flow g = m(x); flow f = k(1 fby 2 fby g, g);", 3, 1)
	countIs(t, "flow g = m(x); flow f = k(g, 1 fby 2 fby g);", 3, 1)
	countIs(t, "flow g = m(x); flow f = n(g); flow h = n(1 fby 2 fby g); flow i = n(1 fby g);", 3, 1, 1, 1)
}

// P15.1: a task has a cell at least, whether it is read or not.
func TestOneCellAtLeast(t *testing.T) {
	countIs(t, "flow f = m(x);", 1)
	countIs(t, chain, 1, 1)
	countIs(t, "flow f = m(y); flow g = n(z);", 1, 1)
	countIs(t, "flow f = m(x); output o = f deadline 3;", 1)
	countIs(t, "flow f = k(x, 0 fby f);", 1)
}

// P15.1: of no tasks there is nothing to be told.
func TestNoTasks(t *testing.T) {
	for _, f := range []api.Flat{{}, made(t, ""), made(t, "flow f = x; output o = f deadline 7;")} {
		p := planOf(t, f)
		countOf(t, f, p)
		for until := range horizon(p) + 1 {
			usesOf(t, f, p, until)
		}
		usesRefused(t, f, p, horizon(p)+1)
	}
}

// P15.1: a task that reads its own last value reads it ahead of its own end.
func TestReadsItself(t *testing.T) {
	countIs(t, "flow f = k(x, 1 fby f);", 1)
	countIs(t, "flow f = k(x, 1 fby 2 fby f);", 2)
	countIs(t, "flow f = k(x, 1 fby 2 fby 3 fby f);", 3)
	f := made(t, "flow f = k(x, 1 fby f);")
	p := planOf(t, f)
	usesOf(t, f, p, 31, use(0, 0, 10), use(0, 1, 20), use(0, 2, 30))
}

// P15.1: at one time what ends is put ahead of what tells say.
func TestTellsAndEnds(t *testing.T) {
	for _, x := range []struct {
		start, deadline int64
		want            int
	}{
		{0, 2, 1}, {0, 3, 2}, {0, 4, 2}, {0, 10, 2}, {0, 12, 2}, {0, 13, 3}, {0, 14, 3}, {0, 22, 3}, {0, 23, 4},
		{1, 3, 1}, {1, 4, 2}, {1, 13, 2}, {1, 14, 3}, {7, 9, 1}, {7, 10, 2}, {7, 19, 2}, {7, 20, 3},
	} {
		f := made(t, "flow g = m(x); flow h = 0 fby g; output o = h deadline 1;")
		f.Tells[0].Deadline = x.deadline
		p := planOf(t, f)
		for i := range p.Slots {
			p.Slots[i].Start = x.start + 10*int64(i)
		}
		if !valid.Well(f, p) {
			t.Fatal(p)
		}
		if l, err := cells.Count(f, p); err != api.OK || !slices.Equal(l, []int{x.want}) {
			t.Errorf("%v: %v, %v", x, l, err)
		}
		// The tell's second value is the task's first one.
		said := 10 + x.deadline
		usesOf(t, f, p, said)
		usesOf(t, f, p, said+1, use(0, 0, said))
	}
}

// P15.1: a value is put where the budget ends, not ahead of it.
func TestBudgets(t *testing.T) {
	f := sample.Row([]int64{1}, every(10, 0))
	f.Tells = []api.Tell{{Clock: every(10, 0), Arg: api.Arg{Src: 1, Ops: []api.Op{op(api.EFby, 0, 0)}}, Deadline: 5}}
	for budget := int64(1); budget <= 10; budget++ {
		f.Nodes[0].Budget = budget
		want := 1
		if budget <= 5 {
			want = 2
		}
		countOf(t, f, planOf(t, f), want)
	}
}

// P15.1: as often, and each of as many; what isn't read isn't used.
func TestOtherClocks(t *testing.T) {
	f := made(t, "flow a = m(x); flow b = n(a *^ 2);")
	p := planOf(t, f)
	countOf(t, f, p, 1, 1)
	usesOf(t, f, p, 30, use(0, 0, 5), use(0, 1, 15), use(0, 2, 25))
	usesOf(t, f, p, 24, use(0, 0, 5), use(0, 1, 15), use(0, 2, 23))
	usesOf(t, f, p, 23, use(0, 0, 5), use(0, 1, 15))
	f = made(t, "flow a = m(x); flow b = n(a /^ 2);")
	p = given(t, f, slot(0, 0, 0), slot(0, 1, 10), slot(1, 0, 13), slot(0, 2, 20), slot(0, 3, 30), slot(1, 1, 33), slot(0, 4, 40))
	// Of a's jobs only the even ones are used, each when the odd one behind it has been put.
	countOf(t, f, p, 2, 1)
	usesOf(t, f, p, 54, use(0, 0, 13), use(0, 2, 33), use(0, 4, 53))
	f = made(t, "flow a = m(y); flow b = n(5 :: a); flow c = n(tail b);")
	p = planOf(t, f)
	countOf(t, f, p, 1, 1, 1)
	usesOf(t, f, p, 70, use(0, 0, 43), use(0, 1, 63), use(1, 1, 45), use(1, 2, 65))
}

// P15.1: below until, each use at its time.
func TestUntil(t *testing.T) {
	f := made(t, "flow g = m(x); flow f = n(0 fby g); flow k = n(g ~> 2/1); output o = g deadline 9;")
	p := planOf(t, f)
	// g's jobs are said at 9, 19, .., read by f at 13, 23, .., and by k at 25, 35, ..
	for until := range horizon(p) + 1 {
		var want []cells.Use
		for j := int64(0); j*10+9 < until; j++ {
			last := j*10 + 9
			for _, later := range []int64{13, 25} {
				if j*10+later < until {
					last = j*10 + later
				}
			}
			want = append(want, use(0, j, last))
		}
		usesOf(t, f, p, until, want...)
	}
	countOf(t, f, p, 3, 1, 1)
	if l, _ := cells.Uses(f, p, horizon(p)); len(l) != 11 {
		t.Error(l)
	}
}

// P15.1: by tasks, and of one task by jobs.
func TestOrder(t *testing.T) {
	f := made(t, "flow a = n(n(z)); flow b = k(a, 0 fby a) /^ 3; output o = b deadline 9;")
	p := planOf(t, f)
	usesOf(t, f, p, 20, use(0, 0, 9), use(0, 1, 14), use(0, 2, 19), use(0, 3, 19), use(1, 0, 2), use(1, 1, 7), use(1, 2, 12), use(1, 3, 17), use(2, 0, 9))
	l, err := cells.Uses(f, p, horizon(p))
	if err != api.OK || len(l) < 40 || l[0].Task != 0 || l[len(l)-1].Task != 2 {
		t.Fatal(l, err)
	}
	for i := range l[1:] {
		if a, b := l[i], l[i+1]; a.Task > b.Task || a.Task == b.Task && a.Job >= b.Job {
			t.Error(a, b)
		}
	}
}

// P15.1: until is from 0 to twice S and three times H.
func TestUntilRefused(t *testing.T) {
	for _, s := range []string{"", chain, "flow f = m(y); output o = f deadline 9;", "flow g = m(x); flow f = n(g ~> 2/1);"} {
		f := made(t, s)
		p := planOf(t, f)
		usesOf(t, f, p, 0)
		if _, err := cells.Uses(f, p, horizon(p)); err != api.OK {
			t.Error(s, err)
		}
		for _, until := range []int64{math.MinInt64, -20000, -1, horizon(p) + 1, 20000, 20001, 1 << 20, 1 << 40, math.MaxInt64} {
			usesRefused(t, f, p, until)
		}
	}
}

// P15.1: of plans that aren't well.
func TestIll(t *testing.T) {
	f := made(t, chain)
	for _, p := range []sched.Plan{
		{},
		{H: 10},
		{H: 20, Slots: []api.Slot{slot(1, 0, 0), slot(0, 0, 3)}},
		{S: 1, H: 10, Slots: []api.Slot{slot(1, 0, 0), slot(0, 0, 3)}},
		{H: 10, Slots: []api.Slot{slot(1, 0, 0), slot(0, 0, 2)}},
		{H: 10, Slots: []api.Slot{slot(0, 0, 0), slot(1, 0, 2)}},
		{H: 10, Slots: []api.Slot{slot(1, 0, 0), slot(0, 0, 9)}},
		{H: 10, Slots: []api.Slot{slot(1, 0, 0), slot(0, 0, 3), slot(2, 0, 5)}},
		{H: 10, Slots: []api.Slot{slot(1, 0, 0), slot(0, 0, 3), slot(-1, 0, 5)}},
		{H: 10, Slots: []api.Slot{slot(1, 0, 0), slot(0, 0, 3), slot(1, -1, 5)}},
		{S: math.MaxInt64, H: math.MaxInt64},
		{S: math.MinInt64, H: math.MinInt64},
	} {
		countRefused(t, f, p)
		for _, until := range []int64{-1, 0, 10, 30, 31} {
			usesRefused(t, f, p, until)
		}
	}
	p := given(t, f, slot(1, 0, 0), slot(0, 0, 3))
	f.Tasks[1].Args[0].Src = 3
	countRefused(t, f, p)
	usesRefused(t, f, p, 5)
}

// P15.1: a plan may be well of which there are more than MaxSlots jobs up to twice S and three times H.
func TestManyJobs(t *testing.T) {
	f := sample.Row([]int64{1}, every(1, 0))
	later := slices.Repeat([]api.Op{op(api.EShift, 100, 1)}, api.MaxOps)
	f.Tells = []api.Tell{{Clock: every(1, 2000), Arg: api.Arg{Src: 1, Ops: later}, Deadline: 1000}}
	p := planOf(t, f)
	if _, err := deadline.Jobs(f, horizon(p)); p.S != 3040 || err != api.ErrLimit {
		t.Fatal(p, err)
	}
	// What is put at n and 1 is said at n and 3000.
	countOf(t, f, p, 3000)
	l, err := cells.Uses(f, p, horizon(p))
	if err != api.OK || int64(len(l)) != horizon(p)-3000 {
		t.Error(len(l), err)
	}
	for i, u := range l {
		if u != use(0, int64(i), int64(i)+3000) {
			t.Fatal(i, u)
		}
	}
}

// P15.1: no more cells than are needed, where only some of the jobs are used.
func TestLeast(t *testing.T) {
	f := made(t, "flow a = k(z, z); flow b = n(a /^ 3); flow c = n(b);")
	countOf(t, f, planOf(t, f), 1, 1, 1)
	// Of a's jobs the first one of three is used, when the two behind it have been put; and no other one.
	f = made(t, "flow a = k(z, z); flow b = a /^ 3; output o = b deadline 11;")
	countOf(t, f, planOf(t, f), 3)
	f.Tells[0].Deadline = 10
	countOf(t, f, planOf(t, f), 2)
	f.Tells[0].Deadline = 16
	countOf(t, f, planOf(t, f), 4)
}

// P15.1: a slot of a job that comes behind all that is asked of a plan is one of the slots, too.
func TestJobsThatComeLater(t *testing.T) {
	f := made(t, chain)
	for _, x := range []struct {
		job  int
		want int
	}{
		// The number of cells isn't one by which the jobs' distance is divisible, and may be less than the distance.
		{3, 2}, {4, 3}, {5, 2}, {6, 4}, {12, 5}, {60, 7}, {99999, 2}, {100000, 3},
	} {
		p := given(t, f, slot(1, 0, 0), slot(1, x.job, 3), slot(0, 0, 6))
		countOf(t, f, p, 1, x.want)
		usesOf(t, f, p, 27, use(1, 0, 6), use(1, 1, 16), use(1, 2, 26))
		// It is put behind the last use.
		p = given(t, f, slot(1, 0, 0), slot(0, 0, 3), slot(1, x.job, 5))
		countOf(t, f, p, 1, 1)
	}
	// It needs another one itself.
	p := given(t, f, slot(1, 0, 0), slot(0, 0, 3), slot(0, 70, 5))
	countOf(t, f, p, 1, 1)
	usesOf(t, f, p, 16, use(1, 0, 3), use(1, 1, 13), use(1, 70, 5), use(1, 71, 15))
}

// P15.1: such jobs may have second slots, behind S and three times H.
func TestTwice(t *testing.T) {
	f := made(t, "flow g = m(x); output o = g deadline 40;")
	p := given(t, f, slot(0, 0, 0), slot(0, 1, 10), slot(0, 2, 20), slot(0, 3, 30), slot(0, 4, 40))
	countOf(t, f, p, 4)
	p = given(t, f, append(p.Slots, slot(0, 7, 44))...)
	usesOf(t, f, p, 110, use(0, 0, 40), use(0, 1, 50), use(0, 2, 60), use(0, 3, 70), use(0, 4, 80), use(0, 5, 90), use(0, 6, 100))
	// When the job 4 is said, 5 to 7, and 7 to 10 for the first time, have been put behind it.
	countOf(t, f, p, 7)
}

// P15.1: a value that is put a second time is no other one, though it is used later.
func TestNotAnotherValue(t *testing.T) {
	f := made(t, "flow g = m(x); flow f = n(g); flow h = x; output o = h deadline 40;")
	p := given(t, f, slot(0, 0, 0), slot(1, 0, 3), slot(0, 1, 10), slot(1, 1, 13), slot(0, 2, 20), slot(1, 2, 23), slot(0, 3, 30), slot(1, 3, 33),
		slot(0, 4, 40), slot(1, 4, 43), slot(0, 7, 45))
	if l := sched.Expand(f, p, horizon(p)); !slices.Contains(l, slot(0, 7, 45)) || !slices.Contains(l, slot(0, 7, 70)) {
		t.Fatal(l)
	}
	// The job 7 is put at 48 and 73, and used at 73; between, 5, 8, 6 and 9 are put.
	countOf(t, f, p, 3, 1)
}

// R1: whatever is handed in.
func TestEndsOfWhateverIsHandedIn(t *testing.T) {
	numbers := []int64{math.MinInt64, math.MinInt64 + 1, -1, 0, 1, 2, 10, 100000, 100001, 1 << 40, math.MaxInt64 - 1, math.MaxInt64}
	f := made(t, chain)
	broken := made(t, chain)
	broken.Tasks[0].Clock.Period = 0
	broken.Tasks[1].Node = -1
	for _, a := range numbers {
		for _, b := range numbers {
			for _, g := range []api.Flat{f, broken, {}} {
				countRefused(t, g, sched.Plan{S: a, H: b, Slots: []api.Slot{slot(0, 0, 0)}})
				usesRefused(t, g, sched.Plan{S: a, H: b, Slots: []api.Slot{slot(0, 0, 0)}}, a)
				for _, c := range numbers {
					p := sched.Plan{H: 10, Slots: []api.Slot{slot(int(a), int(b), c), slot(0, 0, 1)}}
					countRefused(t, g, p)
					usesRefused(t, g, p, c)
				}
			}
		}
		arg := api.Arg{Src: int(a), Ops: []api.Op{{Kind: int(a), N: a, D: a}}}
		g := api.Flat{
			Inputs: []api.Clock{every(a, a)},
			Nodes:  []api.Node{{Params: []string{""}, Budget: a}},
			Tasks:  []api.Task{{Node: int(a), Clock: every(a, a), Args: []api.Arg{arg}}},
			Tells:  []api.Tell{{Clock: every(a, a), Arg: arg, Deadline: a}},
		}
		countRefused(t, g, sched.Plan{H: 10, Slots: []api.Slot{slot(0, 0, 0)}})
		usesRefused(t, g, sched.Plan{H: 10, Slots: []api.Slot{slot(0, 0, 0)}}, 5)
	}
}

// R1: as many slots as may be, of jobs whose numbers lie far from each other, all used late.
func TestEndsOfManySlots(t *testing.T) {
	f := sample.Row([]int64{1, 1}, every(2000, 0), every(2000, 0))
	f.Tasks[1].Args[0].Src = 2
	f.Inputs = f.Inputs[:1]
	f.Tasks[0].Args[0].Src, f.Tasks[1].Args[0].Src = 0, 1
	p := sched.Plan{H: 2000}
	for i := range 1000 {
		p.Slots = append(p.Slots, slot(0, 99*i+i*i%89, int64(i)))
	}
	for i := range 1000 {
		p.Slots = append(p.Slots, slot(1, p.Slots[i].Job, int64(1000+i)))
	}
	if !valid.Well(f, p) {
		t.Fatal(valid.Why(f, p))
	}
	l, err := cells.Count(f, p)
	if err != api.OK || len(l) != 2 || l[0] < 1000 || l[1] != 1 {
		t.Error(l, err)
	}
}

// R5: what is handed in is left as it is, its spare room too, and isn't kept; what is answered is new memory.
func TestLeavesWhatIsHandedIn(t *testing.T) {
	f, kept := made(t, chain), made(t, chain)
	room := []api.Slot{slot(1, 0, 0), slot(0, 0, 3), slot(9, 9, 9)}
	p := given(t, f, room[:2]...)
	counts, _ := cells.Count(f, p)
	uses, _ := cells.Uses(f, p, 30)
	if !reflect.DeepEqual(f, kept) || !slices.Equal(room, []api.Slot{slot(1, 0, 0), slot(0, 0, 3), slot(9, 9, 9)}) {
		t.Error("changed", f, room)
	}
	counts[0], uses[0].Last = 7, 7
	countOf(t, f, p, 1, 1)
	usesOf(t, f, p, 24, use(1, 0, 3), use(1, 1, 13), use(1, 2, 23))
	p.Slots[1].Start = 8
	usesOf(t, f, p, 29, use(1, 0, 8), use(1, 1, 18), use(1, 2, 28))
	f.Nodes[0].Budget = 9
	countRefused(t, f, p)
}
