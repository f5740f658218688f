package deadline

import (
	"cmp"
	"iter"
	"slices"

	"horarium/api"
	"horarium/clock"
	"horarium/index"
)

// fromSource is what layer 7's Back tells of a value that comes from a source.
const fromSource = 1

// window is the jobs that are released below until.
type window struct {
	f      api.Flat
	until  int64
	jobs   []Job
	places [][]int // of each task, of each of its numbers: the job's place
}

// dates goes through the numbers and the dates of a right clock, below until.
func dates(c api.Clock, until int64) iter.Seq2[int64, int64] {
	return func(yield func(int64, int64) bool) {
		for n := int64(0); ; n++ {
			date := clock.Date(c, n)
			if date >= until || !yield(n, date) {
				return
			}
		}
	}
}

// tooMany is whether more than MaxSlots jobs are released below until.
func tooMany(f api.Flat, until int64) bool {
	many := 0
	for _, t := range f.Tasks {
		for range dates(t.Clock, until) {
			many++
		}
	}
	return many > api.MaxSlots
}

// newWindow has the jobs with their own deadlines, as far as no tell brings these forward.
func newWindow(f api.Flat, tasks []int, until int64) *window {
	w := &window{f: f, until: until, places: make([][]int, len(f.Tasks))}
	for _, t := range tasks {
		c := f.Tasks[t].Clock
		for n, date := range dates(c, until) {
			w.jobs = append(w.jobs, Job{Task: t, N: n, Release: date, Deadline: date + c.Period})
		}
	}
	// Those of one release stay in the order of tasks.
	slices.SortStableFunc(w.jobs, func(a, b Job) int { return cmp.Compare(a.Release, b.Release) })
	for i, j := range w.jobs {
		w.places[j.Task] = append(w.places[j.Task], i)
	}
	return w
}

// origin is the place of the job from which the argument's n-th value comes, and whether it comes from one.
func (w *window) origin(a api.Arg, n int64) (int, bool) {
	task := a.Src - len(w.f.Inputs)
	if task < 0 {
		return 0, false
	}
	number, _, kind := index.Back(a.Ops, n)
	if kind != fromSource {
		return 0, false
	}
	// What is read is never of a later date than who reads it, so that it is in the window, too.
	return w.places[task][number], true
}

// need tells of each job which ones it needs.
func (w *window) need() {
	for i, j := range w.jobs {
		var needs []int
		for _, a := range w.f.Tasks[j.Task].Args {
			if place, is := w.origin(a, j.N); is {
				needs = append(needs, place)
			}
		}
		slices.Sort(needs)
		w.jobs[i].Needs = slices.Compact(needs)
	}
}

// tell brings forward the deadlines of the jobs whose values are said.
func (w *window) tell() {
	for _, t := range w.f.Tells {
		for n, date := range dates(t.Clock, w.until) {
			if place, is := w.origin(t.Arg, n); is {
				w.bring(place, date+t.Deadline)
			}
		}
	}
}

// adjust brings forward the deadlines of the jobs that others need, from the last job to the first: a job is needed only by such as are behind it.
func (w *window) adjust() {
	for _, j := range slices.Backward(w.jobs) {
		budget := w.f.Nodes[w.f.Tasks[j.Task].Node].Budget
		for _, place := range j.Needs {
			w.bring(place, j.Deadline-budget)
		}
	}
}

// bring brings the job's deadline forward to the date, if that is earlier.
func (w *window) bring(place int, date int64) {
	w.jobs[place].Deadline = min(w.jobs[place].Deadline, date)
}
