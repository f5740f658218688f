package run

import (
	"horarium/api"
	"horarium/body"
	"horarium/clock"
	"horarium/index"
	"horarium/sched"
	"horarium/stream"
)

// fromSource is what layer 7's Back tells of a value that comes from a source.
const fromSource = 1

// ending is that a job's value is put to its task's cells at the time.
type ending struct {
	time  int64
	task  int
	job   int
	value int64
}

// runner is a run, as far as it has gone.
type runner struct {
	f       api.Flat
	in      [][]int64       // of each input; lists may be missing
	rings   [][]int64       // of each task, its cells
	endings []ending        // of what is put later, by times
	tells   [][]stream.Said // of each time, what is said then, whose values aren't known yet
	now     int64           // the first time that hasn't been passed
	said    []stream.Said
}

func newRunner(f api.Flat, in [][]int64, counts []int, until int64) *runner {
	r := &runner{f: f, in: in, tells: tellsOf(f, until)}
	for _, many := range counts {
		r.rings = append(r.rings, make([]int64, many))
	}
	return r
}

// tellsOf is, of each time up to until, what is said then, by tells.
func tellsOf(f api.Flat, until int64) [][]stream.Said {
	l := make([][]stream.Said, until+1)
	for i, t := range f.Tells {
		for n := range stream.Jobs(t.Clock, until-t.Deadline+1) {
			date := clock.Date(t.Clock, n) + t.Deadline
			l[date] = append(l[date], stream.Said{Tell: i, Job: n, Date: date})
		}
	}
	return l
}

// pass goes on up to the time: all that ends is put, and tells say what is there.
func (r *runner) pass(time int64) {
	for ; r.now <= time; r.now++ {
		r.put()
		r.say()
	}
}

// put puts what ends now.
func (r *runner) put() {
	for len(r.endings) > 0 && r.endings[0].time == r.now {
		e := r.endings[0]
		ring := r.rings[e.task]
		ring[e.job%len(ring)] = e.value
		r.endings = r.endings[1:]
	}
}

// say says what tells say now.
func (r *runner) say() {
	for _, s := range r.tells[r.now] {
		s.Value = r.value(r.f.Tells[s.Tell].Arg, s.Job)
		r.said = append(r.said, s)
	}
}

// start reckons the slot's job. Slots don't overlap, so that its ending comes behind all that wait.
func (r *runner) start(s api.Slot) {
	t := r.f.Tasks[s.Task]
	args := make([]int64, len(t.Args))
	for i, a := range t.Args {
		args[i] = r.value(a, int64(s.Job))
	}
	r.endings = append(r.endings, ending{
		time:  s.Start + sched.Budget(r.f, s.Task),
		task:  s.Task,
		job:   s.Job,
		value: body.Eval(r.f.Nodes[t.Node], args),
	})
}

// value is the argument's n-th value, as the cells have it now.
func (r *runner) value(a api.Arg, n int64) int64 {
	place, number, kind := index.Back(a.Ops, n)
	if kind != fromSource {
		return number
	}
	if task := a.Src - len(r.f.Inputs); task >= 0 {
		ring := r.rings[task]
		return ring[place%int64(len(ring))]
	}
	return r.input(a.Src, place)
}

// input is the input's n-th value, 0 where none is there.
func (r *runner) input(i int, n int64) int64 {
	if i >= len(r.in) || n >= int64(len(r.in[i])) {
		return 0
	}
	return r.in[i][n]
}
