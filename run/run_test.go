package run_test

import (
	"math"
	"reflect"
	"slices"
	"testing"

	"horarium/api"
	"horarium/deadline"
	"horarium/run"
	"horarium/sample"
	"horarium/sched"
	"horarium/stream"
	"horarium/valid"
)

// last is the last date up to which a plan is run.
const last = 10000

// head is nodes m, n and s, which is slow, of one parameter, and k and d of two, and inputs; y alone doesn't come at once.
const head = "node m(a) budget 3 { a } node n(a) budget 2 { a + 1 } node k(a, b) budget 1 { a + b } node d(a, b) budget 2 { a * 100 - b } " +
	"node s(a) budget 8 { a * 2 } input x period 10; input y period 20 phase 40; input z period 5; "

// chain is of tasks 0, n, and 1, m, which runs ahead, each 10 ticks; n's budget is 2, m's 3.
const chain = "flow f = n(m(x)); output o = f deadline 6;"

// ofX is values of x alone.
var ofX = [][]int64{{5, 6, 7, 8, 9}}

func every(period, phase int64) api.Clock { return api.Clock{Period: period, Phase: phase} }
func op(kind int, n, d int64) api.Op      { return api.Op{Kind: kind, N: n, D: d} }

// slot is that of the task's job.
func slot(task, job int, start int64) api.Slot {
	return api.Slot{Task: task, Job: job, Start: start}
}

// says is that the tell says the value of the number at the date.
func says(tell int, job, date, value int64) stream.Said {
	return stream.Said{Tell: tell, Job: job, Date: date, Value: value}
}

// made is the text's program, behind the head, made flat.
func made(t *testing.T, s string) api.Flat {
	t.Helper()
	f, is := sample.Made(head + s)
	if !is {
		t.Fatal(s)
	}
	return f
}

// planOf is the plan that is made of the flat program.
func planOf(t *testing.T, f api.Flat) sched.Plan {
	t.Helper()
	p, err := sched.Make(f)
	if err != api.OK {
		t.Fatal(f, err)
	}
	return p
}

// given is a plan of the slots, which must be well.
func given(t *testing.T, f api.Flat, slots ...api.Slot) sched.Plan {
	t.Helper()
	s, h, err := deadline.Window(f)
	p := sched.Plan{S: s, H: h, Slots: slots}
	if err != api.OK || !valid.Well(f, p) {
		t.Fatal(p, err)
	}
	return p
}

func same(a, b run.Result) bool {
	return a.Overrun == b.Overrun && a.Slot == b.Slot && slices.Equal(a.Said, b.Said)
}

func resultIs(t *testing.T, f api.Flat, p sched.Plan, in [][]int64, times []int64, until int64, want run.Result) {
	t.Helper()
	if r, err := run.Run(f, p, in, times, until); err != api.OK || !same(r, want) {
		t.Errorf("%v of %v, times %v, up to %d:\n%v, %v; should be\n%v", p, in, times, until, r, err, want)
	}
}

// runOf asks of a run that ends without an overrun.
func runOf(t *testing.T, f api.Flat, p sched.Plan, in [][]int64, until int64, want ...stream.Said) {
	t.Helper()
	resultIs(t, f, p, in, nil, until, run.Result{Said: want})
}

// runIs asks so of the plan that is made of the text, behind the head.
func runIs(t *testing.T, text string, in [][]int64, until int64, want ...stream.Said) {
	t.Helper()
	f := made(t, text)
	runOf(t, f, planOf(t, f), in, until, want...)
}

// overrunOf asks of a run that ends at the slot.
func overrunOf(t *testing.T, f api.Flat, p sched.Plan, in [][]int64, times []int64, until int64, s api.Slot, want ...stream.Said) {
	t.Helper()
	resultIs(t, f, p, in, times, until, run.Result{Said: want, Overrun: true, Slot: s})
}

func refused(t *testing.T, f api.Flat, p sched.Plan, until int64) {
	t.Helper()
	for _, times := range [][]int64{nil, {1}, {9999}} {
		if r, err := run.Run(f, p, ofX, times, until); err != api.ErrArg || len(r.Said) != 0 || r.Overrun || r.Slot != (api.Slot{}) {
			t.Errorf("%v up to %d: %v, %v", p, until, r, err)
		}
	}
}

// P16.1: the chapter's example: the third slot overruns.
func TestExample(t *testing.T) {
	f := made(t, chain)
	overrunOf(t, f, planOf(t, f), ofX, []int64{1, 1, 9}, 50, slot(1, 1, 10), says(0, 0, 6, 6))
	resultIs(t, f, planOf(t, f), ofX, []int64{1, 1}, 26, run.Result{Said: []stream.Said{says(0, 0, 6, 6), says(0, 1, 16, 7), says(0, 2, 26, 8)}})
}

// P16.1, P16.2: the whole's first example: a sum, told 4 ticks later.
func TestSum(t *testing.T) {
	runIs(t, "flow f = k(x, 0 fby f); output o = f deadline 4;", ofX, 60,
		says(0, 0, 4, 5), says(0, 1, 14, 11), says(0, 2, 24, 18), says(0, 3, 34, 26), says(0, 4, 44, 35), says(0, 5, 54, 35))
}

// P16.1: what is said at dates up to until; the times at which jobs run don't show.
func TestUntil(t *testing.T) {
	f := made(t, chain)
	all := []stream.Said{says(0, 0, 6, 6), says(0, 1, 16, 7), says(0, 2, 26, 8), says(0, 3, 36, 9)}
	for _, p := range []sched.Plan{planOf(t, f), given(t, f, slot(1, 0, 1), slot(0, 0, 4), slot(1, 1, 10), slot(0, 1, 14))} {
		for until := range int64(46) {
			runOf(t, f, p, ofX, until, all[:(until+4)/10]...)
		}
	}
}

// P16.1: until is from 0 to 10000.
func TestUntilRefused(t *testing.T) {
	for _, s := range []string{"", chain, "flow f = x; output o = f deadline 10;", "flow f = m(y); output o = f deadline 20;"} {
		f := made(t, s)
		p := planOf(t, f)
		runOf(t, f, p, ofX, 0)
		for _, until := range []int64{math.MinInt64, -10000, -1, last + 1, 20000, 1 << 40, math.MaxInt64} {
			refused(t, f, p, until)
		}
	}
	f := made(t, "flow f = m(x); output o = f deadline 10;")
	for _, until := range []int64{last - 1, last} {
		r, err := run.Run(f, planOf(t, f), nil, nil, until)
		if err != api.OK || int64(len(r.Said)) != until/10 || r.Said[len(r.Said)-1].Date != until/10*10 {
			t.Error(until, len(r.Said), err)
		}
	}
}

// P16.1: by dates, and of one date by tells; each at its clock's date and its deadline.
func TestTells(t *testing.T) {
	const flows = "flow f = m(x); flow g = f *^ 2; flow h = f /^ 2; "
	runIs(t, flows+"output o = f deadline 14; output p = f deadline 4;", ofX, 35,
		says(1, 0, 4, 5), says(0, 0, 14, 5), says(1, 1, 14, 6), says(0, 1, 24, 6), says(1, 2, 24, 7), says(0, 2, 34, 7), says(1, 3, 34, 8))
	runIs(t, flows+"output o = f deadline 4; output p = f deadline 4; output q = f deadline 3;", ofX, 14,
		says(2, 0, 3, 5), says(0, 0, 4, 5), says(1, 0, 4, 5), says(2, 1, 13, 6), says(0, 1, 14, 6), says(1, 1, 14, 6))
	runIs(t, flows+"output o = g deadline 7; output p = h deadline 12;", ofX, 32,
		says(0, 0, 7, 5), says(0, 1, 12, 5), says(1, 0, 12, 5), says(0, 2, 17, 6), says(0, 3, 22, 6), says(0, 4, 27, 7), says(0, 5, 32, 7), says(1, 1, 32, 7))
	// Nothing is said without tells.
	runIs(t, flows, ofX, 1000)
}

// P16.1: tells say inputs and numbers, too, and need no task for it.
func TestTellsOfInputs(t *testing.T) {
	runIs(t, "flow f = x; output o = f deadline 3;", ofX, 23, says(0, 0, 3, 5), says(0, 1, 13, 6), says(0, 2, 23, 7))
	runIs(t, "flow f = -4 fby 3 fby x; output o = f deadline 1;", ofX, 31, says(0, 0, 1, -4), says(0, 1, 11, 3), says(0, 2, 21, 5), says(0, 3, 31, 6))
	runIs(t, "flow f = 8 :: y; output o = f deadline 1;", [][]int64{{5}, {6, 7}}, 61, says(0, 0, 21, 8), says(0, 1, 41, 6), says(0, 2, 61, 7))
	runIs(t, "flow f = tail x; output o = f deadline 2;", ofX, 32, says(0, 0, 12, 6), says(0, 1, 22, 7), says(0, 2, 32, 8))
	runIs(t, "flow f = x ~> 3/2; output o = f deadline 2;", ofX, 30, says(0, 0, 17, 5), says(0, 1, 27, 6))
	runIs(t, "flow f = 9 fby m(x); output o = f deadline 2;", ofX, 22, says(0, 0, 2, 9), says(0, 1, 12, 5), says(0, 2, 22, 6))
	f := made(t, "flow f = x; output o = f deadline 3;")
	resultIs(t, f, planOf(t, f), ofX, []int64{9999}, 3, run.Result{Said: []stream.Said{says(0, 0, 3, 5)}})
}

// P16.1: an input's value that isn't there is 0.
func TestInputs(t *testing.T) {
	f := made(t, "flow f = d(x, z /^ 2); flow g = x; output o = f deadline 9; output p = g deadline 1;")
	p := planOf(t, f)
	for _, x := range []struct {
		in   [][]int64
		want [4]int64 // of f and g, at 0 and at 10
	}{
		{nil, [4]int64{}},
		{[][]int64{}, [4]int64{}},
		{[][]int64{nil, nil, nil}, [4]int64{}},
		{[][]int64{{5}}, [4]int64{500, 0, 5, 0}},
		{[][]int64{{5, 6}}, [4]int64{500, 600, 5, 6}},
		{[][]int64{{5, 6, 7}, {8, 9}}, [4]int64{500, 600, 5, 6}},
		{[][]int64{{5, 6}, nil, {3, 4}}, [4]int64{497, 600, 5, 6}},
		{[][]int64{{5, 6}, nil, {3, 4, 2}}, [4]int64{497, 598, 5, 6}},
		{[][]int64{nil, nil, {3, 4, 2}}, [4]int64{-3, -2, 0, 0}},
		{[][]int64{{5, 6}, {1}, {3, 4, 2}, {7, 7}, {7}}, [4]int64{497, 598, 5, 6}},
		{[][]int64{{math.MaxInt64, math.MinInt64}, {1}, {math.MinInt64}}, [4]int64{-100 - math.MinInt64, 0, math.MaxInt64, math.MinInt64}},
	} {
		runOf(t, f, p, x.in, 19, says(1, 0, 1, x.want[2]), says(0, 0, 9, x.want[0]), says(1, 1, 11, x.want[3]), says(0, 1, 19, x.want[1]))
	}
}

// P16.1: arguments stand in their order, and come from where their operators tell.
func TestArguments(t *testing.T) {
	runIs(t, "flow f = d(x, 7 fby x); output o = f deadline 5;", ofX, 25, says(0, 0, 5, 493), says(0, 1, 15, 595), says(0, 2, 25, 694))
	runIs(t, "flow f = d(7 fby x, x); output o = f deadline 5;", ofX, 25, says(0, 0, 5, 695), says(0, 1, 15, 494), says(0, 2, 25, 593))
	runIs(t, "flow a = n(x); flow b = m(x); flow f = d(1 fby b, a); output o = f deadline 9;", ofX, 19, says(0, 0, 9, 94), says(0, 1, 19, 493))
	runIs(t, "flow a = n(x); flow f = n(a *^ 2); output o = f deadline 5;", ofX, 20,
		says(0, 0, 5, 7), says(0, 1, 10, 7), says(0, 2, 15, 8), says(0, 3, 20, 8))
	runIs(t, "flow a = n(z); flow f = n(a /^ 3); output o = f deadline 5;", [][]int64{nil, nil, {1, 2, 3, 4, 5, 6, 7}}, 35,
		says(0, 0, 5, 3), says(0, 1, 20, 6), says(0, 2, 35, 9))
}

// P16.1: values of a task that are read later wait in as many cells as it needs.
func TestCells(t *testing.T) {
	runIs(t, "flow g = n(x); flow f = m(g ~> 2/1); output o = f deadline 5;", ofX, 45,
		says(0, 0, 25, 6), says(0, 1, 35, 7), says(0, 2, 45, 8))
	runIs(t, "flow g = n(x); flow f = d(1 fby 2 fby g, g); output o = f deadline 5;", ofX, 35,
		says(0, 0, 5, 94), says(0, 1, 15, 193), says(0, 2, 25, 592), says(0, 3, 35, 691))
	runIs(t, "flow f = k(x, 1 fby 2 fby f); output o = f deadline 35;", ofX, 75,
		says(0, 0, 35, 6), says(0, 1, 45, 8), says(0, 2, 55, 13), says(0, 3, 65, 16), says(0, 4, 75, 22))
	// Of three jobs one is read, behind the two that come then.
	runIs(t, "flow g = n(z); flow f = g /^ 3; output o = f deadline 11;", [][]int64{nil, nil, {1, 2, 3, 4, 5, 6}}, 30, says(0, 0, 11, 2), says(0, 1, 26, 5))
}

// P16.1: at one time what ends is put first: it is said, and read, at once.
func TestEndsAreFirst(t *testing.T) {
	runIs(t, "flow f = m(x); output o = f deadline 3;", ofX, 23, says(0, 0, 3, 5), says(0, 1, 13, 6), says(0, 2, 23, 7))
	f := made(t, "flow f = n(m(x)); output o = f deadline 5;")
	runOf(t, f, given(t, f, slot(1, 0, 0), slot(0, 0, 3), slot(1, 1, 10), slot(0, 1, 13)), ofX, 15, says(0, 0, 5, 6), says(0, 1, 15, 7))
}

// P16.1: a job's value is put where its budget ends, however short it ran: till then its cell has the value ahead.
func TestPutWhereTheBudgetEnds(t *testing.T) {
	f := sample.Row([]int64{1}, every(10, 0))
	f.Nodes[0].Body = api.Expr{Kind: api.EParam, Name: "a"}
	f.Tells = []api.Tell{{Clock: every(10, 0), Arg: api.Arg{Src: 1, Ops: []api.Op{op(api.EFby, 77, 0)}}}}
	for budget := int64(1); budget <= 10; budget++ {
		f.Nodes[0].Budget = budget
		for dead := int64(1); dead <= 20; dead++ {
			f.Tells[0].Deadline = dead
			want := []stream.Said{says(0, 0, dead, 77), says(0, 1, 10+dead, 5), says(0, 2, 20+dead, 6), says(0, 3, 30+dead, 7)}
			for _, times := range [][]int64{nil, {budget}, {1, budget}, {-3}} {
				resultIs(t, f, planOf(t, f), ofX, times, 30+dead, run.Result{Said: want})
			}
		}
	}
	// Its own last value is read when it starts, ahead of what it puts itself.
	runIs(t, "flow f = d(x, 1 fby f); output o = f deadline 2;", ofX, 22, says(0, 0, 2, 499), says(0, 1, 12, 101), says(0, 2, 22, 599))
}

// P16.1: the i-th slot's job takes the i-th time, from the first one on again; 1, if there are none; below 1 counts as 1.
func TestTimes(t *testing.T) {
	f := made(t, chain)
	p := planOf(t, f)
	for _, x := range []struct {
		times []int64
		place int // of the slot that overruns; -1, if none does
	}{
		{nil, -1}, {[]int64{}, -1}, {[]int64{1}, -1}, {[]int64{2}, -1}, {[]int64{3}, 1}, {[]int64{4}, 0}, {[]int64{math.MaxInt64}, 0},
		{[]int64{0}, -1}, {[]int64{-1}, -1}, {[]int64{math.MinInt64}, -1}, {[]int64{0, -7, math.MinInt64, 0, 1}, -1},
		{[]int64{3, 2}, -1}, {[]int64{2, 3}, 1}, {[]int64{3, 3}, 1}, {[]int64{4, 2}, 0}, {[]int64{4, 3}, 0},
		{[]int64{3, 2, 4}, 2}, {[]int64{3, 2, 3}, 3}, {[]int64{2, 2, 3}, 5}, {[]int64{3, 1, 1}, 3},
		{[]int64{2, 2, 2, 2, 3}, 9}, {[]int64{1, 1, 1, 1, 1, 1, 1, 1, 1, 3}, 9}, {[]int64{3, 2, 3, 2, 3, 2, 3, 2, 4, 9}, 8},
		{[]int64{1, 1, 1, 1, 1, 1, 1, 1, 1, 1, 99}, 10}, {[]int64{1, 1, 1, 1, 1, 1, 1, 1, 1, 1, 1, 99}, -1},
	} {
		const until = 50
		l := sched.Expand(f, p, until+1)
		if len(l) != 11 {
			t.Fatal(l)
		}
		all := []stream.Said{says(0, 0, 6, 6), says(0, 1, 16, 7), says(0, 2, 26, 8), says(0, 3, 36, 9), says(0, 4, 46, 10)}
		if x.place < 0 {
			resultIs(t, f, p, ofX, x.times, until, run.Result{Said: all})
			continue
		}
		overrunOf(t, f, p, ofX, x.times, until, l[x.place], all[:x.place/2]...)
	}
}

// P16.1: each by its own budget; those of one node, too.
func TestBudgets(t *testing.T) {
	f := made(t, "flow a = m(x); flow b = n(a); flow c = m(b); output o = c deadline 9;")
	p := planOf(t, f)
	budgets := []int64{3, 2, 3}
	for i, b := range budgets {
		times := slices.Clone(budgets)
		resultIs(t, f, p, ofX, times, 9, run.Result{Said: []stream.Said{says(0, 0, 9, 6)}})
		times[i] = b + 1
		overrunOf(t, f, p, ofX, times, 9, p.Slots[i])
	}
}

// P16.1: an overrun counts at a start up to until.
func TestOverrunsUpTo(t *testing.T) {
	f := made(t, chain)
	p := planOf(t, f)
	times := []int64{1, 1, 1, 9}
	for until := range int64(40) {
		want := run.Result{}
		if until >= 6 {
			want.Said = []stream.Said{says(0, 0, 6, 6)}
		}
		if until >= 13 {
			want.Overrun, want.Slot = true, slot(0, 1, 13)
		}
		resultIs(t, f, p, ofX, times, until, want)
	}
	overrunOf(t, f, p, ofX, []int64{4}, 0, slot(1, 0, 0))
	f = made(t, "flow f = m(x);")
	times = append(slices.Repeat([]int64{1}, 1000), 4)
	resultIs(t, f, planOf(t, f), nil, times, last-1, run.Result{})
	overrunOf(t, f, planOf(t, f), nil, times, last, slot(0, 1000, last))
}

// P16.1: what is said at the time at which the job starts that overruns, is ahead of it; nothing is said behind it.
func TestSaidAheadOfAnOverrun(t *testing.T) {
	f := made(t, "flow g = m(x); flow f = n(g); output o = g deadline 3; output p = f deadline 5; output q = f deadline 13; flow h = z; output r = h deadline 3;")
	p := planOf(t, f)
	in := [][]int64{{5, 6, 7}, nil, {1, 2, 3, 4}}
	first := []stream.Said{says(0, 0, 3, 5), says(3, 0, 3, 1)}
	overrunOf(t, f, p, in, []int64{4}, 40, slot(0, 0, 0))
	overrunOf(t, f, p, in, []int64{3}, 40, slot(1, 0, 3), first...)
	next := append(slices.Clone(first), says(1, 0, 5, 6), says(3, 1, 8, 2))
	overrunOf(t, f, p, in, []int64{3, 2, 4}, 40, slot(0, 1, 10), next...)
	// At 13 g's job has ended, too; what f's job that was ahead made is said once more.
	then := append(slices.Clone(next), says(0, 1, 13, 6), says(2, 0, 13, 6), says(3, 2, 13, 3))
	overrunOf(t, f, p, in, []int64{3, 2, 3, 3}, 40, slot(1, 1, 13), then...)
	overrunOf(t, f, p, in, []int64{3, 2, 3, 3}, 13, slot(1, 1, 13), then...)
}

// P16.1: of a plan whose slots ahead of S aren't as those behind: they run once.
func TestAheadOfS(t *testing.T) {
	f := made(t, "flow f = n(m(y)); flow g = n(x); output o = f deadline 8;")
	p := planOf(t, f)
	if p.S == 0 || p.Slots[0].Task != 2 || p.Slots[0].Start != 0 {
		t.Fatal(p)
	}
	in := [][]int64{nil, {5, 6, 7, 8}}
	runOf(t, f, p, in, 108, says(0, 0, 48, 6), says(0, 1, 68, 7), says(0, 2, 88, 8), says(0, 3, 108, 9))
	l := sched.Expand(f, p, 200)
	for _, i := range []int{0, 3, 4, len(p.Slots) - 1, len(p.Slots), len(l) - 1} {
		times := slices.Repeat([]int64{1}, len(l))
		times[i] = 4
		if r, err := run.Run(f, p, in, times, 200); err != api.OK || !r.Overrun || r.Slot != l[i] {
			t.Error(i, r, err)
		}
	}
}

// P16.1: a program without tasks has a plan without slots.
func TestNoTasks(t *testing.T) {
	runOf(t, api.Flat{}, sched.Plan{H: 1}, nil, last)
	runOf(t, api.Flat{}, sched.Plan{H: 1}, nil, 0)
	refused(t, api.Flat{}, sched.Plan{}, 0)
}

// P16.1: a slot of a job that comes behind all that is asked of a plan is one of the slots, too; what is said is as meant all the same.
func TestJobsThatComeLater(t *testing.T) {
	f := made(t, chain)
	all := []stream.Said{says(0, 0, 6, 6), says(0, 1, 16, 7), says(0, 2, 26, 8), says(0, 3, 36, 9), says(0, 4, 46, 10), says(0, 5, 56, 1)}
	for _, job := range []int{4, 5, 6, 12, 99999, 100000} {
		for _, task := range []int{0, 1} {
			odd := slot(task, job, 6)
			p := given(t, f, slot(1, 0, 0), slot(0, 0, 3), odd, slot(1, 1, 10), slot(0, 1, 13))
			runOf(t, f, p, ofX, 56, all...)
			// It has a time of its own.
			resultIs(t, f, p, ofX, []int64{3, 2, sched.Budget(f, task)}, 13, run.Result{Said: all[:1]})
			overrunOf(t, f, p, ofX, []int64{3, 2, 4}, 56, odd, all[:1]...)
			overrunOf(t, f, p, ofX, []int64{3, 2, 1, 3, 2, 4}, 56, slot(task, job+1, 16), all[:2]...)
		}
	}
}

// P16.1: plans that aren't well.
func TestIll(t *testing.T) {
	f := made(t, chain)
	for _, p := range []sched.Plan{
		{},
		{H: 10},
		{S: 6, H: 10},
		{H: 10, Slots: []api.Slot{slot(1, 0, 0), slot(0, 0, 3)}},
		{S: 6, H: 10, Slots: []api.Slot{slot(1, 0, 0), slot(0, 0, 3)}},
		{S: 6, H: 20, Slots: []api.Slot{slot(1, 0, 0), slot(0, 0, 3), slot(1, 1, 10), slot(0, 1, 13)}},
		{S: 7, H: 10, Slots: []api.Slot{slot(1, 0, 0), slot(0, 0, 3), slot(1, 1, 10), slot(0, 1, 13)}},
		{S: 6, H: 10, Slots: []api.Slot{slot(1, 0, 0), slot(0, 0, 2), slot(1, 1, 10), slot(0, 1, 13)}},
		{S: 6, H: 10, Slots: []api.Slot{slot(1, 0, 0), slot(0, 0, 3), slot(1, 1, 9), slot(0, 1, 13)}},
		{S: 6, H: 10, Slots: []api.Slot{slot(1, 0, 0), slot(0, 0, 5), slot(1, 1, 10), slot(0, 1, 13)}},
		{S: 6, H: 10, Slots: []api.Slot{slot(1, 0, 0), slot(0, 0, 3), slot(1, 1, 10), slot(0, 1, 13), slot(2, 0, 15)}},
		{S: 6, H: 10, Slots: []api.Slot{slot(1, 0, 0), slot(0, 0, 3), slot(1, 1, 10), slot(0, 1, 13), slot(-1, 0, 15)}},
		{S: 6, H: 10, Slots: []api.Slot{slot(1, 0, 0), slot(0, 0, 3), slot(1, 1, 10), slot(0, 1, 13), slot(1, -1, 15)}},
		{S: math.MaxInt64, H: math.MaxInt64},
		{S: math.MinInt64, H: math.MinInt64},
	} {
		for _, until := range []int64{-1, 0, 10, last, last + 1} {
			refused(t, f, p, until)
		}
	}
	p := given(t, f, slot(1, 0, 0), slot(0, 0, 3), slot(1, 1, 10), slot(0, 1, 13))
	f.Tasks[1].Args[0].Src = 5
	refused(t, f, p, 5)
}

// R1: whatever is handed in.
func TestEndsOfWhateverIsHandedIn(t *testing.T) {
	numbers := []int64{math.MinInt64, math.MinInt64 + 1, -1, 0, 1, 2, 10, last, last + 1, 100001, 1 << 40, math.MaxInt64 - 1, math.MaxInt64}
	f := made(t, chain)
	broken := made(t, chain)
	broken.Tasks[0].Clock.Period = 0
	broken.Tasks[1].Node = -1
	for _, a := range numbers {
		for _, b := range numbers {
			for _, g := range []api.Flat{f, broken, {}} {
				if b != 1 {
					refused(t, g, sched.Plan{S: a, H: b, Slots: []api.Slot{slot(0, 0, 0)}}, 50)
				}
			}
			for _, c := range numbers {
				refused(t, f, sched.Plan{S: 6, H: 10, Slots: []api.Slot{slot(int(a), int(b), c), slot(0, 0, 1)}}, c)
			}
			resultIs(t, f, planOf(t, f), nil, []int64{min(2, a), min(2, b)}, 6, run.Result{Said: []stream.Said{says(0, 0, 6, 1)}})
		}
		arg := api.Arg{Src: int(a), Ops: []api.Op{{Kind: int(a), N: a, D: a}}}
		refused(t, api.Flat{
			Inputs: []api.Clock{every(a, a)},
			Nodes:  []api.Node{{Params: []string{""}, Budget: a}},
			Tasks:  []api.Task{{Node: int(a), Clock: every(a, a), Args: []api.Arg{arg}}},
			Tells:  []api.Tell{{Clock: every(a, a), Arg: arg, Deadline: a}},
		}, sched.Plan{H: 10, Slots: []api.Slot{slot(0, 0, 0)}}, 5)
	}
}

// R1: as many slots, cells and tells as may be.
func TestEndsOfManySlots(t *testing.T) {
	f := sample.Row([]int64{1}, every(1, 0))
	f.Nodes[0].Body = api.Expr{Kind: api.EParam, Name: "a"}
	later := slices.Repeat([]api.Op{op(api.EShift, 100, 1)}, api.MaxOps)
	f.Tells = slices.Repeat([]api.Tell{{Clock: every(1, 2000), Arg: api.Arg{Src: 1, Ops: later}, Deadline: 1000}}, 20)
	in := [][]int64{nil}
	for i := range int64(last) {
		in[0] = append(in[0], i*i)
	}
	r, err := run.Run(f, planOf(t, f), in, nil, last)
	if err != api.OK || r.Overrun || len(r.Said) != 20*(last-3000+1) {
		t.Fatal(len(r.Said), err)
	}
	for i, s := range r.Said {
		n := int64(i / 20)
		if s != says(i%20, n, n+3000, n*n) {
			t.Fatal(i, s)
		}
	}
}

// R5: what is handed in is left as it is, its spare room too, and isn't kept; what is answered is new memory.
func TestLeavesWhatIsHandedIn(t *testing.T) {
	f, kept := made(t, chain), made(t, chain)
	slots := []api.Slot{slot(1, 0, 0), slot(0, 0, 3), slot(1, 1, 10), slot(0, 1, 13), slot(9, 9, 9)}
	values, times := []int64{5, 6, 7, 8}, []int64{3, 2, 9, 9}
	in := [][]int64{values[:3], nil, nil, {1}}
	p := given(t, f, slots[:4]...)
	want := []stream.Said{says(0, 0, 6, 6), says(0, 1, 16, 7), says(0, 2, 26, 8), says(0, 3, 36, 1)}
	r, err := run.Run(f, p, in[:3], times[:2], 36)
	if err != api.OK || !slices.Equal(r.Said, want) {
		t.Fatal(r, err)
	}
	if !reflect.DeepEqual(f, kept) || !slices.Equal(slots, []api.Slot{slot(1, 0, 0), slot(0, 0, 3), slot(1, 1, 10), slot(0, 1, 13), slot(9, 9, 9)}) {
		t.Error("changed", f, slots)
	}
	if !slices.Equal(values, []int64{5, 6, 7, 8}) || !slices.Equal(times, []int64{3, 2, 9, 9}) || len(in[3]) != 1 {
		t.Error("changed", in, times)
	}
	values[0], p.Slots[0].Start = 99, 7
	if !slices.Equal(r.Said, want) {
		t.Error("kept", r)
	}
	values[0], p.Slots[0].Start = 5, 0
	r.Said[0].Value = 44
	runOf(t, f, p, in[:3], 36, want...)
	values[1] = 20
	want[1].Value = 21
	runOf(t, f, p, in[:3], 36, want...)
}
