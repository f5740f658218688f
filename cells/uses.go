package cells

import (
	"horarium/api"
	"horarium/clock"
	"horarium/index"
	"horarium/sched"
	"horarium/stream"
)

// fromSource is what layer 7's Back tells of a value that comes from a source.
const fromSource = 1

// job is a task's, by its number.
type job struct {
	task int
	n    int64
}

// lastUses is when each job that is used below until is used last.
func lastUses(f api.Flat, p sched.Plan, until int64) map[job]int64 {
	last := map[job]int64{}
	use := func(a api.Arg, n, now int64) {
		if j, is := origin(f, a, n); is {
			last[j] = max(last[j], now)
		}
	}
	// What a slot's job needs is traced here, since layer 11 lists no more than MaxSlots jobs, and there may be more up to the horizon.
	for _, s := range sched.Expand(f, p, until) {
		for _, a := range f.Tasks[s.Task].Args {
			use(a, int64(s.Job), s.Start)
		}
	}
	for _, t := range f.Tells {
		for n := range stream.Jobs(t.Clock, until-t.Deadline) {
			use(t.Arg, n, clock.Date(t.Clock, n)+t.Deadline)
		}
	}
	return last
}

// origin is the job from which the argument's n-th value comes, and whether it comes from one.
func origin(f api.Flat, a api.Arg, n int64) (job, bool) {
	task := a.Src - len(f.Inputs)
	if task < 0 {
		return job{}, false
	}
	place, _, kind := index.Back(a.Ops, n)
	return job{task, place}, kind == fromSource
}
