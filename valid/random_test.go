package valid_test

import (
	"math/rand"
	"testing"

	"horarium/api"
	"horarium/deadline"
	"horarium/sample"
	"horarium/sched"
	"horarium/valid"
)

// answer is what Why answers.
type answer struct {
	kind, place int
}

// model goes through the words of the chapter one by one, and asks all of all.
type model struct {
	f     api.Flat
	p     sched.Plan
	slots []api.Slot // expanded
	jobs  []deadline.Job
}

func (m *model) budget(task int) int64 {
	return m.f.Nodes[m.f.Tasks[task].Node].Budget
}

// mayBe is whether the plan's slots may be such, each by itself and beside each other one.
func (m *model) mayBe() bool {
	for i, a := range m.p.Slots {
		if a.Start < 0 || a.Start >= m.p.S+m.p.H || a.Task < 0 || a.Task >= len(m.f.Tasks) || a.Job < 0 || a.Job > maxJob {
			return false
		}
		for _, b := range m.p.Slots[:i] {
			if b.Start >= a.Start {
				return false
			}
		}
	}
	return true
}

// expand goes through the time tick by tick: behind S and H, each tick has what the tick a hyperperiod ago had.
func (m *model) expand(until int64) {
	at := map[int64]api.Slot{}
	for _, s := range m.p.Slots {
		at[s.Start] = s
	}
	for now := range until {
		s, there := at[now]
		if now >= m.p.S+m.p.H {
			s, there = at[now-m.p.H]
			s.Start = now
		}
		if !there {
			continue
		}
		if now >= m.p.S+m.p.H {
			s.Job += int(m.p.H / m.f.Tasks[s.Task].Clock.Period)
			at[now] = s
		}
		m.slots = append(m.slots, s)
	}
}

// clash is the first slot that is of some earlier one's job, or starts where an earlier one isn't over.
func (m *model) clash() (int, bool) {
	for i, a := range m.slots {
		for _, b := range m.slots[:i] {
			if a.Task == b.Task && a.Job == b.Job || b.Start+m.budget(b.Task) > a.Start {
				return i, true
			}
		}
	}
	return 0, false
}

// end is when the job's slot ends; false, if there is none.
func (m *model) end(j deadline.Job) (int64, bool) {
	for _, s := range m.slots {
		if s.Task == j.Task && int64(s.Job) == j.N {
			return s.Start + m.budget(s.Task), true
		}
	}
	return 0, false
}

// runs is whether the job has a slot as it should.
func (m *model) runs(j deadline.Job) bool {
	end, there := m.end(j)
	start := end - m.budget(j.Task)
	if !there || start < j.Release || end > j.Deadline {
		return false
	}
	for _, place := range j.Needs {
		if ended, there := m.end(m.jobs[place]); !there || ended > start {
			return false
		}
	}
	return true
}

// meant is what Why should answer.
func meant(f api.Flat, p sched.Plan) answer {
	s, h, err := deadline.Window(f)
	if err != api.OK || s != p.S || h != p.H {
		return answer{1, -1}
	}
	jobs, err := deadline.Jobs(f, s+3*h)
	m := &model{f: f, p: p, jobs: jobs}
	if err != api.OK || !m.mayBe() {
		return answer{1, -1}
	}
	m.expand(s + 3*h)
	if i, is := m.clash(); is {
		return answer{2, i}
	}
	for i, j := range jobs {
		if j.Release < s+2*h && !m.runs(j) {
			return answer{3, i}
		}
	}
	return answer{0, -1}
}

// asMeant asks what is wrong with the plan, and counts the answer.
func asMeant(t *testing.T, f api.Flat, p sched.Plan, many map[int]int) {
	t.Helper()
	want := meant(f, p)
	kind, place := valid.Why(f, p)
	if (answer{kind, place}) != want || valid.Well(f, p) != (want.kind == 0) {
		t.Fatalf("%v\n%v: %d, %d; should be %v", f, p, kind, place, want)
	}
	many[kind]++
}

// askAll asks of the flat program's plan, if there is one, which must be well, and of such as come near.
func askAll(t *testing.T, r *rand.Rand, f api.Flat, many map[int]int) {
	t.Helper()
	p, err := sched.Make(f)
	if err != api.OK {
		asMeant(t, f, sched.Plan{H: 1}, many)
		return
	}
	if want := meant(f, p); want.kind != 0 || !valid.Well(f, p) {
		t.Fatalf("%v\n%v: %v", f, p, want)
	}
	p = sample.Spread(r.Intn, f, p)
	asMeant(t, f, p, many)
	for range 4 {
		if len(p.Slots) == 0 {
			return
		}
		asMeant(t, f, sample.Changed(r.Intn, f, p), many)
		p = sample.Changed(r.Intn, f, p)
		asMeant(t, f, p, many)
	}
}

func enough(t *testing.T, many map[int]int, least int) {
	t.Helper()
	for kind := range 4 {
		if many[kind] < least {
			t.Error(many)
			return
		}
	}
}

// P13.1, P13.2: of programs as they are written.
func TestProgramsAtRandom(t *testing.T) {
	r := rand.New(rand.NewSource(13))
	many := map[int]int{}
	for i := range 4000 {
		m := sample.Maker{Pick: r.Intn, Periods: []int64{4, 6, 8, 12}, Many: 1 + i%8, Deep: 1 + i%4, Budget: 1 + i%3, Deadline: 30}
		if f, is := sample.Made(m.Text()); is {
			askAll(t, r, f, many)
		}
	}
	enough(t, many, 1000)
}

// P13.1, P13.2: of flat programs that none need have written.
func TestFlatsAtRandom(t *testing.T) {
	r := rand.New(rand.NewSource(131))
	m := sample.Flats{Pick: r.Intn, Clocks: []api.Clock{every(4, 0), every(4, 6), every(6, 0), every(6, 9), every(8, 3), every(12, 8)}, Tasks: 5, Tells: 3, Deadline: 20}
	many := map[int]int{}
	for i := range 2500 {
		m.Budget = 1 + i%4
		askAll(t, r, m.Flat(), many)
	}
	enough(t, many, 500)
}

// P13.1, P13.2: of tasks that read inputs alone, with much room.
func TestRowsAtRandom(t *testing.T) {
	r := rand.New(rand.NewSource(1313))
	many := map[int]int{}
	for range 2500 {
		budgets, clocks := make([]int64, 1+r.Intn(3)), []api.Clock(nil)
		for i := range budgets {
			clocks = append(clocks, every([]int64{4, 6, 12}[r.Intn(3)], r.Int63n(12)))
			budgets[i] = 1 + r.Int63n(2)
		}
		askAll(t, r, sample.Row(budgets, clocks...), many)
	}
	enough(t, many, 1000)
}
