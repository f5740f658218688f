package cells_test

import (
	"math/rand"
	"slices"
	"testing"

	"horarium/api"
	"horarium/cells"
	"horarium/deadline"
	"horarium/sample"
	"horarium/sched"
	"horarium/valid"
)

// job is a task's, by its number.
type job struct {
	task, n int
}

// ahead is how many ticks ahead of its release a job runs at most, in the plans that are asked of here.
const ahead = 400

// moment is all that happens at one time.
type moment struct {
	put, used []job
}

// model goes through a plan's time tick by tick. A tell is a task of a node of its own, behind all others, for which layer 11 tells what it needs.
type model struct {
	f       api.Flat
	needs   map[job][]job
	moments []moment
}

// withTellers is the flat program with a task in place of each tell.
func withTellers(f api.Flat) api.Flat {
	g := api.Flat{Inputs: f.Inputs, Nodes: append(slices.Clone(f.Nodes), api.Node{Params: []string{"a"}, Budget: 1}), Tasks: slices.Clone(f.Tasks)}
	for _, t := range f.Tells {
		g.Tasks = append(g.Tasks, api.Task{Node: len(f.Nodes), Clock: t.Clock, Args: []api.Arg{t.Arg}})
	}
	return g
}

// newModel is of a plan that is well; false, if there are too many jobs for it up to until and what may be read ahead of its time.
func newModel(t *testing.T, f api.Flat, p sched.Plan, until int64) (*model, bool) {
	t.Helper()
	m := &model{f: f, needs: map[job][]job{}, moments: make([]moment, until)}
	l, err := deadline.Jobs(withTellers(f), until+ahead)
	if err != api.OK {
		return nil, false
	}
	for _, j := range l {
		needs := []job{}
		for _, place := range j.Needs {
			needs = append(needs, job{l[place].Task, int(l[place].N)})
		}
		m.needs[job{j.Task, int(j.N)}] = needs
	}
	for _, s := range sched.Expand(f, p, until) {
		j := job{s.Task, s.Job}
		m.use(t, j, s.Start)
		if end := s.Start + f.Nodes[f.Tasks[s.Task].Node].Budget; end < until {
			m.moments[end].put = append(m.moments[end].put, j)
		}
	}
	for i, tell := range f.Tells {
		for n := 0; ; n++ {
			said := tell.Clock.Phase + int64(n)*tell.Clock.Period + tell.Deadline
			if said >= until {
				break
			}
			m.use(t, job{len(f.Tasks) + i, n}, said)
		}
	}
	return m, true
}

// use is that all that the job needs is used then.
func (m *model) use(t *testing.T, j job, now int64) {
	t.Helper()
	needs, known := m.needs[j]
	if !known {
		t.Fatal("no such job", j)
	}
	m.moments[now].used = append(m.moments[now].used, needs...)
}

// usedFrom is whether the job's value is used from a on, below until.
func (m *model) usedFrom(j job, a, until int64) bool {
	for _, now := range m.moments[a:until] {
		if slices.Contains(now.used, j) {
			return true
		}
	}
	return false
}

// uses is the last use of each job below until, each task's and each job asked of, in order.
func (m *model) uses(until int64) []cells.Use {
	var l []cells.Use
	for task := range m.f.Tasks {
		greatest := -1
		for _, now := range m.moments[:until] {
			for _, j := range now.used {
				if j.task == task {
					greatest = max(greatest, j.n)
				}
			}
		}
		for n := range greatest + 1 {
			for now := until - 1; now >= 0; now-- {
				if slices.Contains(m.moments[now].used, job{task, n}) {
					l = append(l, use(task, int64(n), now))
					break
				}
			}
		}
	}
	return l
}

// keeps is whether, with so many cells of the task, nothing that is put comes to a cell whose value is still used.
func (m *model) keeps(task, many int, until int64) bool {
	ring := map[int]job{}
	for now := range until {
		for _, j := range m.moments[now].put {
			if j.task != task {
				continue
			}
			old, full := ring[j.n%many]
			if full && old != j && m.usedFrom(old, now, until) {
				return false
			}
			ring[j.n%many] = j
		}
	}
	return true
}

func (m *model) count(until int64) []int {
	var l []int
	for task := range m.f.Tasks {
		many := 1
		for !m.keeps(task, many, until) {
			many++
		}
		l = append(l, many)
	}
	return l
}

// wrong is of how many reads the cell has another value than the one that is meant, or none, with so many cells of each task; at one time what ends is put first.
func (m *model) wrong(counts []int, until int64) int {
	wrong := 0
	rings := map[job]job{}
	for _, now := range m.moments[:until] {
		for _, j := range now.put {
			rings[job{j.task, j.n % counts[j.task]}] = j
		}
		for _, j := range now.used {
			if has, full := rings[job{j.task, j.n % counts[j.task]}]; !full || has != j {
				wrong++
			}
		}
	}
	return wrong
}

// tally is how much was asked of.
type tally struct {
	well, several, odd int
}

// asMeant asks of a plan that is well.
func asMeant(t *testing.T, r *rand.Rand, f api.Flat, p sched.Plan, many *tally) {
	t.Helper()
	until := horizon(p)
	m, is := newModel(t, f, p, until)
	if !is {
		return
	}
	many.well++
	want := m.count(until)
	if slices.Max(append(want, 0)) > 1 {
		many.several++
	}
	countOf(t, f, p, want...)
	usesOf(t, f, p, until, m.uses(until)...)
	short := r.Int63n(until + 1)
	usesOf(t, f, p, short, m.uses(short)...)
	if t.Failed() {
		t.Fatal(f, p)
	}
}

// readsAsMeant asks of a plan whose jobs all run in their time: with so many cells each read is as meant, also long behind the horizon; with one less, of some task, some isn't.
func readsAsMeant(t *testing.T, f api.Flat, p sched.Plan) {
	t.Helper()
	until := 3*horizon(p) + 50
	m, is := newModel(t, f, p, until)
	if !is {
		return
	}
	counts, err := cells.Count(f, p)
	if err != api.OK {
		t.Fatal(f, p, err)
	}
	if n := m.wrong(counts, until); n != 0 {
		t.Fatalf("%v\n%v: %v: %d are wrong", f, p, counts, n)
	}
	for task := range counts {
		if counts[task] == 1 {
			continue
		}
		counts[task]--
		if m.wrong(counts, horizon(p)) == 0 {
			t.Fatalf("%v\n%v: %v are enough", f, p, counts)
		}
		counts[task]++
	}
}

// askAll asks of the flat program's plan, if there is one, and of such as come near.
func askAll(t *testing.T, r *rand.Rand, f api.Flat, many *tally) {
	t.Helper()
	p, err := sched.Make(f)
	if err != api.OK {
		countRefused(t, f, sched.Plan{H: 1})
		usesRefused(t, f, sched.Plan{H: 1}, 0)
		return
	}
	asMeant(t, r, f, p, many)
	readsAsMeant(t, f, p)
	p = sample.Spread(r.Intn, f, p)
	asMeant(t, r, f, p, many)
	readsAsMeant(t, f, p)
	for range 4 {
		if len(p.Slots) == 0 {
			return
		}
		q := sample.Changed(r.Intn, f, p)
		if valid.Well(f, q) {
			asMeant(t, r, f, q, many)
		} else {
			countRefused(t, f, q)
			usesRefused(t, f, q, 0)
		}
	}
	if q := sample.Besides(r.Intn, f, p); len(q.Slots) > len(p.Slots) {
		many.odd++
		asMeant(t, r, f, q, many)
	}
}

func enough(t *testing.T, many tally, well, several, odd int) {
	t.Helper()
	if many.well < well || many.several < several || many.odd < odd {
		t.Error(many)
	}
}

// P15.1, P15.2: of programs as they are written.
func TestProgramsAtRandom(t *testing.T) {
	r := rand.New(rand.NewSource(15))
	var many tally
	for i := range 2000 {
		m := sample.Maker{Pick: r.Intn, Periods: []int64{4, 6, 8, 12}, Many: 1 + i%8, Deep: 1 + i%4, Budget: 1 + i%3, Deadline: 30}
		if f, is := sample.Made(m.Text()); is {
			askAll(t, r, f, &many)
		}
	}
	enough(t, many, 4000, 800, 300)
}

// P15.1, P15.2: of flat programs that none need have written.
func TestFlatsAtRandom(t *testing.T) {
	r := rand.New(rand.NewSource(151))
	m := sample.Flats{Pick: r.Intn, Clocks: []api.Clock{every(4, 0), every(4, 6), every(6, 0), every(6, 9), every(8, 3), every(12, 8)}, Tasks: 5, Tells: 3, Deadline: 20}
	var many tally
	for i := range 1500 {
		m.Budget = 1 + i%4
		askAll(t, r, m.Flat(), &many)
	}
	enough(t, many, 2000, 300, 100)
}
