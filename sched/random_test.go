package sched_test

import (
	"math/rand"
	"slices"
	"testing"

	"horarium/api"
	"horarium/deadline"
	"horarium/order"
	"horarium/sample"
	"horarium/sched"
)

// outcome is how the making of a plan ends.
type outcome string

const (
	planned outcome = "planned"
	late    outcome = "late"    // a job ends behind its deadline
	strays  outcome = "strays"  // all end in time, but it doesn't repeat
	refused outcome = "refused" // by layer 11
)

// model goes through the time tick by tick, and asks all jobs at each.
type model struct {
	f     api.Flat
	jobs  []deadline.Job
	ended []int64 // of each job when it ends; -1 of one that hasn't started
}

// canRun is whether the job hasn't started yet, is released, and all that it needs has run.
func (m *model) canRun(i int, now int64) bool {
	if m.ended[i] >= 0 || m.jobs[i].Release > now {
		return false
	}
	return !slices.ContainsFunc(m.jobs[i].Needs, func(p int) bool { return m.ended[p] < 0 || m.ended[p] > now })
}

// choice is the job that runs next, if there is one now.
func (m *model) choice(now int64) (int, bool) {
	best, is := 0, false
	for i, j := range m.jobs {
		if m.canRun(i, now) && (!is || j.Deadline < m.jobs[best].Deadline) {
			best, is = i, true
		}
	}
	return best, is
}

// slots is the slots of all jobs, and whether all end in time.
func (m *model) slots() ([]api.Slot, bool) {
	var l []api.Slot
	free, inTime := int64(0), true
	for now := int64(0); len(l) < len(m.jobs); now++ {
		if now < free {
			continue
		}
		if i, is := m.choice(now); is {
			j := m.jobs[i]
			free = now + m.f.Nodes[m.f.Tasks[j.Task].Node].Budget
			m.ended[i] = free
			inTime = inTime && free <= j.Deadline
			l = append(l, api.Slot{Task: j.Task, Job: int(j.N), Start: now})
		}
	}
	return l, inTime
}

// between is the slots that start from a on, below b.
func between(l []api.Slot, a, b int64) []api.Slot {
	return slices.DeleteFunc(slices.Clone(l), func(s api.Slot) bool { return s.Start < a || s.Start >= b })
}

// moved is the slots of the jobs that are so many ticks later.
func moved(f api.Flat, l []api.Slot, ticks int64) []api.Slot {
	l = slices.Clone(l)
	for i := range l {
		l[i].Start += ticks
		l[i].Job += int(ticks / f.Tasks[l[i].Task].Clock.Period)
	}
	return l
}

// meant is the plan, as the chapter says it.
func meant(f api.Flat) (sched.Plan, api.Errno, outcome) {
	s, h, err := deadline.Window(f)
	if err != api.OK {
		return sched.Plan{}, err, refused
	}
	jobs, err := deadline.Jobs(f, s+3*h)
	if err != api.OK {
		return sched.Plan{}, err, refused
	}
	m := &model{f: f, jobs: jobs, ended: slices.Repeat([]int64{-1}, len(jobs))}
	l, inTime := m.slots()
	if !inTime {
		return sched.Plan{}, api.ErrMiss, late
	}
	if !slices.Equal(moved(f, between(l, s, s+h), h), between(l, s+h, s+2*h)) {
		return sched.Plan{}, api.ErrMiss, strays
	}
	return sched.Plan{S: s, H: h, Slots: between(l, 0, s+h)}, api.OK, planned
}

// expanded is the plan's slots below until, each one told of by itself, and sorted then.
func expanded(f api.Flat, p sched.Plan, until int64) []api.Slot {
	var l []api.Slot
	for round := int64(0); round*p.H < until; round++ {
		for _, s := range p.Slots {
			if round == 0 || s.Start >= p.S {
				l = append(l, moved(f, []api.Slot{s}, round*p.H)...)
			}
		}
	}
	l = between(l, 0, until)
	slices.SortFunc(l, func(a, b api.Slot) int { return int(a.Start - b.Start) })
	return l
}

func samePlan(a, b sched.Plan) bool {
	return a.S == b.S && a.H == b.H && slices.Equal(a.Slots, b.Slots)
}

// keeps asks whether each job of the plan, as far as until, runs from its release to its deadline, by itself, behind all that it needs, and once.
func keeps(t *testing.T, f api.Flat, p sched.Plan) {
	t.Helper()
	until := p.S + 2*p.H
	jobs, _ := deadline.Jobs(f, p.S+3*p.H)
	starts := map[[2]int64]int64{}
	free := int64(0)
	for _, s := range sched.Expand(f, p, p.S+3*p.H) {
		key := [2]int64{int64(s.Task), int64(s.Job)}
		if _, twice := starts[key]; twice || s.Start < free {
			t.Fatalf("%v\n%v: %v", f, p, s)
		}
		starts[key] = s.Start
		free = s.Start + sched.Budget(f, s.Task)
	}
	for _, j := range jobs {
		start, there := starts[[2]int64{int64(j.Task), j.N}]
		if j.Release < until && (!there || start < j.Release || start+sched.Budget(f, j.Task) > j.Deadline) {
			t.Fatalf("%v\n%v: %v starts at %d", f, p, j, start)
		}
		for _, place := range j.Needs {
			k := jobs[place]
			ahead, ran := starts[[2]int64{int64(k.Task), k.N}]
			if there && (!ran || ahead+sched.Budget(f, k.Task) > start) {
				t.Fatalf("%v\n%v: %v starts at %d, needs %v", f, p, j, start, k)
			}
		}
	}
}

// ask asks for the flat program's plan, and for it expanded.
func ask(t *testing.T, r *rand.Rand, f api.Flat) outcome {
	t.Helper()
	want, wantErr, how := meant(f)
	p, err := sched.Make(f)
	if err != wantErr || !samePlan(p, want) {
		t.Fatalf("%v\n%v, %v; should be\n%v, %v", f, p, err, want, wantErr)
	}
	if err != api.OK {
		return how
	}
	keeps(t, f, p)
	until := r.Int63n(p.S + 4*p.H)
	if got, want := sched.Expand(f, p, until), expanded(f, p, until); !slices.Equal(got, want) {
		t.Fatalf("%v\n%v up to %d:\n%v; should be\n%v", f, p, until, got, want)
	}
	return how
}

// P12.1: of programs as they are written.
func TestProgramsAtRandom(t *testing.T) {
	r := rand.New(rand.NewSource(12))
	many := map[outcome]int{}
	for i := range 4000 {
		m := sample.Maker{Pick: r.Intn, Periods: []int64{4, 6, 8, 12}, Many: 1 + i%8, Deep: 1 + i%4, Budget: 1 + i%3, Deadline: 30}
		if f, is := sample.Made(m.Text()); is {
			many[ask(t, r, f)]++
		}
	}
	if many[planned] < 3000 || many[late] < 100 || many[refused] < 50 {
		t.Error(many)
	}
}

// P12.1: of flat programs that none need have written.
func TestFlatsAtRandom(t *testing.T) {
	r := rand.New(rand.NewSource(121))
	m := sample.Flats{Pick: r.Intn, Clocks: []api.Clock{every(4, 0), every(4, 6), every(6, 0), every(6, 9), every(8, 3), every(12, 8)}, Tasks: 5, Tells: 3, Deadline: 20}
	many := map[outcome]int{}
	for i := range 4000 {
		m.Budget = 1 + i%4
		many[ask(t, r, m.Flat())]++
	}
	if many[planned] < 1500 || many[late] < 500 || many[refused] < 500 {
		t.Error(many)
	}
}

// P12.1: of tasks that read inputs alone, whose first dates lie apart, so that many a plan doesn't repeat.
func TestRowsAtRandom(t *testing.T) {
	r := rand.New(rand.NewSource(1212))
	many := map[outcome]int{}
	for range 4000 {
		budgets, clocks := make([]int64, 1+r.Intn(3)), []api.Clock(nil)
		for i := range budgets {
			clocks = append(clocks, every([]int64{2, 4, 6, 12}[r.Intn(4)], r.Int63n(12)))
			budgets[i] = 1 + r.Int63n(clocks[i].Period)/2
		}
		many[ask(t, r, sample.Row(budgets, clocks...))]++
	}
	if many[planned] < 1000 || many[late] < 1000 || many[strays] < 50 {
		t.Error(many)
	}
}

// onOneClock gives each task a node of its own, so that all their budgets come to the whole, and tells at least as much for a deadline; it is false, if the tasks' clocks differ.
func onOneClock(r *rand.Rand, f api.Flat, whole int64) (api.Flat, bool) {
	var nodes []api.Node
	for i, task := range f.Tasks {
		if task.Clock != f.Tasks[0].Clock {
			return f, false
		}
		nodes = append(nodes, f.Nodes[task.Node])
		nodes[i].Budget = 1
		f.Tasks[i].Node = i
	}
	for range whole - int64(len(nodes)) {
		nodes[r.Intn(len(nodes))].Budget++
	}
	for i := range f.Tells {
		f.Tells[i].Deadline = whole + r.Int63n(3)
	}
	f.Nodes = nodes
	return f, true
}

// P12.2: on one clock, with budgets that come to at most the period, and each deadline: there is a plan, if there is an order.
func TestOneClockAtRandom(t *testing.T) {
	r := rand.New(rand.NewSource(122))
	clocks := []api.Clock{every(6, 0), every(6, 9), every(12, 8), every(8, 3)}
	m := sample.Flats{Pick: r.Intn, Clocks: clocks, Tasks: 5, Tells: 3, Budget: 1, Deadline: 1}
	many := map[outcome]int{}
	for range 8000 {
		f := m.Flat()
		period := f.Tasks[0].Clock.Period
		f, is := onOneClock(r, f, period-r.Int63n(2))
		if _, err := order.Of(f); !is || err != api.OK {
			continue
		}
		many[ask(t, r, f)]++
		if _, err := sched.Make(f); err != api.OK {
			t.Fatal(f, err)
		}
	}
	if many[planned] < 1000 {
		t.Error(many)
	}
}
