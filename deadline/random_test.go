package deadline_test

import (
	"cmp"
	"math/rand"
	"slices"
	"testing"

	"horarium/api"
	"horarium/check"
	"horarium/clock"
	"horarium/deadline"
	"horarium/flat"
	"horarium/order"
	"horarium/sample"
	"horarium/syntax"
)

// from is a job, or none, if the value comes from an input or is a number; and when the value comes.
type from struct {
	date int64
	task int // -1: none
	n    int64
}

// model hands the names of jobs, instead of values, through the operators, from the inside out.
type model struct {
	f     api.Flat
	until int64
	own   map[from]int64   // of each job its own deadline; the date is the release
	needs map[from][]from  // of each job what it needs
	users map[from][]from  // of each job what needs it
	known map[from]int64   // adjusted deadlines
	rank  []int            // of each task its place in the order
	reads map[int64][]from // of each tell's date, all that is said then
}

// source is what the source's values are, at its dates below until.
func (m *model) source(i int) []from {
	c, _ := flat.Source(m.f, i)
	var l []from
	for date := c.Phase; date < m.until; date += c.Period {
		v := from{date: date, task: max(-1, i-len(m.f.Inputs))}
		if v.task >= 0 {
			v.n = int64(len(l))
		}
		l = append(l, v)
	}
	return l
}

// argument is where the argument's values come from, one behind the other, below until.
func (m *model) argument(a api.Arg) []from {
	l := m.source(a.Src)
	c, _ := flat.Source(m.f, a.Src)
	for _, o := range a.Ops {
		var made []from
		switch o.Kind {
		case api.EOver:
			for _, v := range l {
				for i := range o.N {
					made = append(made, from{v.date + i*c.Period/o.N, v.task, v.n})
				}
			}
		case api.EUnder:
			for i := 0; i < len(l); i += int(o.N) {
				made = append(made, l[i])
			}
		case api.EShift:
			made = later(l, c.Period*o.N/o.D)
		case api.EFby:
			made = append([]from{{date: c.Phase, task: -1}}, later(l, c.Period)...)
		case api.ETail:
			made = l[min(1, len(l)):]
		case api.ECons:
			made = append([]from{{date: c.Phase - c.Period, task: -1}}, l...)
		}
		l = slices.DeleteFunc(slices.Clone(made), func(v from) bool { return v.date >= m.until })
		c, _ = clock.Apply(c, o)
	}
	return l
}

func later(l []from, ticks int64) []from {
	l = slices.Clone(l)
	for i := range l {
		l[i].date += ticks
	}
	return l
}

// released is the job whose value comes so, by its release.
func (m *model) released(v from) from {
	v.date = clock.Date(m.f.Tasks[v.task].Clock, v.n)
	return v
}

func meant(f api.Flat, until int64) *model {
	m := &model{f: f, until: until, own: map[from]int64{}, needs: map[from][]from{}, users: map[from][]from{}, known: map[from]int64{}, reads: map[int64][]from{}}
	l, _ := order.Of(f)
	m.rank = order.Places(l)
	for i, t := range f.Tasks {
		for _, j := range m.source(len(f.Inputs) + i) {
			m.own[j] = j.date + t.Clock.Period
		}
		for _, a := range t.Args {
			for n, v := range m.argument(a) {
				m.use(from{clock.Date(t.Clock, int64(n)), i, int64(n)}, v)
			}
		}
	}
	for _, t := range f.Tells {
		for _, v := range m.argument(t.Arg) {
			if v.task >= 0 {
				m.reads[v.date] = append(m.reads[v.date], m.released(v))
				m.own[m.released(v)] = min(m.own[m.released(v)], v.date+t.Deadline)
			}
		}
	}
	return m
}

// use is that a job uses what comes from another one, or from none.
func (m *model) use(user, v from) {
	if v.task < 0 {
		return
	}
	used := m.released(v)
	if !slices.Contains(m.needs[user], used) {
		m.needs[user] = append(m.needs[user], used)
		m.users[used] = append(m.users[used], user)
	}
}

// deadline is the job's adjusted deadline.
func (m *model) deadline(j from) int64 {
	if dead, is := m.known[j]; is {
		return dead
	}
	dead := m.own[j]
	for _, user := range m.users[j] {
		dead = min(dead, m.deadline(user)-m.budget(user.task))
	}
	m.known[j] = dead
	return dead
}

func (m *model) budget(task int) int64 {
	return m.f.Nodes[m.f.Tasks[task].Node].Budget
}

// jobs is the list.
func (m *model) jobs() []deadline.Job {
	var l []from
	for j := range m.own {
		l = append(l, j)
	}
	slices.SortFunc(l, func(a, b from) int { return cmp.Or(cmp.Compare(a.date, b.date), m.rank[a.task]-m.rank[b.task]) })
	made := make([]deadline.Job, len(l))
	for i, j := range l {
		made[i] = deadline.Job{Task: j.task, N: j.n, Release: j.date, Deadline: m.deadline(j)}
		for p, k := range l {
			if slices.Contains(m.needs[j], k) {
				made[i].Needs = append(made[i].Needs, p)
			}
		}
	}
	return made
}

// window is S, and all periods' least number that is divisible by them, as far as that is small.
func (m *model) window() (int64, int64, api.Errno) {
	settled, all := int64(0), []int64{1}
	add := func(a api.Arg, dead int64) {
		source, _ := flat.Source(m.f, a.Src)
		sum, ahead := dead, int64(0)
		for i := range len(a.Ops) + 1 {
			c, _ := clock.All(source, a.Ops[:i])
			all = append(all, c.Period)
			if i > 0 {
				sum += ahead + c.Period
			}
			if i == len(a.Ops) {
				sum += c.Phase
			}
			ahead = c.Period
		}
		settled = max(settled, sum)
	}
	for _, t := range m.f.Tasks {
		for _, a := range t.Args {
			add(a, 0)
		}
	}
	for _, t := range m.f.Tells {
		add(t.Arg, t.Deadline)
	}
	for h := int64(1); h <= api.MaxHyper; h++ {
		if settled <= 4000 && !slices.ContainsFunc(all, func(period int64) bool { return h%period != 0 }) {
			return settled, h, api.OK
		}
	}
	return 0, 0, api.ErrLimit
}

// asMeant asks for the jobs of a flat program that has an order, up to some date.
func asMeant(t *testing.T, f api.Flat, until int64) {
	t.Helper()
	got, err := deadline.Jobs(f, until)
	want := meant(f, until).jobs()
	if err != api.OK || !slices.EqualFunc(got, want, same) {
		t.Fatalf("%v\nup to %d:\n%v, %v; should be\n%v", f, until, got, err, want)
	}
	for i, j := range got {
		budget := f.Nodes[f.Tasks[j.Task].Node].Budget
		for _, p := range j.Needs {
			if p >= i || got[p].Deadline+budget > j.Deadline {
				t.Fatalf("%v\nup to %d: %v\nneeds %v", f, until, j, got[p])
			}
		}
	}
}

// asRepeated asks whether from S on all is read as it was a hyperperiod ago, so much later.
func asRepeated(t *testing.T, f api.Flat, s, h int64) {
	t.Helper()
	m := meant(f, s+3*h)
	after := func(l []from) []from {
		l = later(l, h)
		for i := range l {
			l[i].n += h / f.Tasks[l[i].task].Clock.Period
		}
		return l
	}
	for j := range m.own {
		next := after([]from{j})[0]
		if j.date >= s && j.date < s+2*h && !slices.Equal(after(m.needs[j]), m.needs[next]) {
			t.Fatalf("%v\n%d, %d: %v needs %v, %v %v", f, s, h, j, m.needs[j], next, m.needs[next])
		}
	}
	for date := s; date < s+2*h; date++ {
		if !slices.Equal(after(m.reads[date]), m.reads[date+h]) {
			t.Fatalf("%v\n%d, %d: at %d is said %v, %d later %v", f, s, h, date, m.reads[date], h, m.reads[date+h])
		}
	}
}

// askAll asks a flat program that is right.
func askAll(t *testing.T, r *rand.Rand, f api.Flat) api.Errno {
	t.Helper()
	s, h, err := deadline.Window(f)
	if wantS, wantH, wantErr := (&model{f: f}).window(); s != wantS || h != wantH || err != wantErr {
		t.Fatalf("%v\n%d, %d, %v; should be %d, %d, %v", f, s, h, err, wantS, wantH, wantErr)
	}
	until := r.Int63n(100)
	if _, cycle := order.Of(f); cycle != api.OK {
		jobsRefused(t, f, f, until, cycle)
		return cycle
	}
	asMeant(t, f, until)
	if err == api.OK && h < 40 {
		asRepeated(t, f, s, h)
	}
	return err
}

// P11.1, P11.2, P11.3: of programs as they are written.
func TestProgramsAtRandom(t *testing.T) {
	r := rand.New(rand.NewSource(11))
	many := map[api.Errno]int{}
	for i := range 3000 {
		m := sample.Maker{Pick: r.Intn, Periods: []int64{2, 4, 6, 10}, Many: 1 + i%8, Deep: 1 + i%4, Budget: 8, Deadline: 30}
		p, _, err := syntax.Parse(m.Text())
		if err != api.OK {
			continue
		}
		clocks, _, err := check.Check(p)
		if err != api.OK {
			continue
		}
		if f, _, err := flat.Make(p, clocks); err == api.OK {
			many[askAll(t, r, f)]++
		}
	}
	if many[api.OK] < 1500 || many[api.ErrCycle] < 20 || many[api.ErrArg] > 0 {
		t.Error(many)
	}
}

// P11.1, P11.2, P11.3: of flat programs that none need have written.
func TestFlatsAtRandom(t *testing.T) {
	r := rand.New(rand.NewSource(111))
	clocks := []api.Clock{every(2, 0), every(2, 4), every(4, 0), every(4, 6), every(6, 0), every(6, 8), every(12, 3)}
	m := sample.Flats{Pick: r.Intn, Clocks: clocks, Tasks: 5, Tells: 4, Budget: 8, Deadline: 12}
	many := map[api.Errno]int{}
	for range 2000 {
		many[askAll(t, r, m.Flat())]++
	}
	if many[api.OK] < 1000 || many[api.ErrCycle] < 100 || many[api.ErrArg] > 0 {
		t.Error(many)
	}
	// Of clocks that often have no hyperperiod.
	m.Clocks = []api.Clock{every(96, 0), every(70, 20), every(390, 0), every(1000, 0), every(2000, 0), every(88, 4)}
	for range 1000 {
		many[askAll(t, r, m.Flat())]++
	}
	if many[api.ErrLimit] < 200 {
		t.Error(many)
	}
}
