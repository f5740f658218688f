package sched

import (
	"cmp"
	"container/heap"

	"horarium/api"
	"horarium/deadline"
)

// queue is a heap of places in the list of jobs: that of the least deadline first, of equal ones the least place.
type queue struct {
	jobs   []deadline.Job
	places []int
}

// Len is for container/heap.
func (q *queue) Len() int {
	return len(q.places)
}

// Less is for container/heap alone.
func (q *queue) Less(i, j int) bool {
	a, b := q.places[i], q.places[j]
	return cmp.Or(cmp.Compare(q.jobs[a].Deadline, q.jobs[b].Deadline), cmp.Compare(a, b)) < 0
}

// Swap is for container/heap alone.
func (q *queue) Swap(i, j int) {
	q.places[i], q.places[j] = q.places[j], q.places[i]
}

// Push is for container/heap alone.
func (q *queue) Push(place any) {
	q.places = append(q.places, place.(int))
}

// Pop is for container/heap alone.
func (q *queue) Pop() any {
	last := len(q.places) - 1
	place := q.places[last]
	q.places = q.places[:last]
	return place
}

// slotsOf gives each job, of a list by releases, its slot, and tells whether all end in time.
func slotsOf(f api.Flat, jobs []deadline.Job) ([]api.Slot, bool) {
	var slots []api.Slot
	q := &queue{jobs: jobs}
	now, next := int64(0), 0 // next is the place of the first job that isn't released yet
	for len(slots) < len(jobs) {
		if q.Len() == 0 {
			now = max(now, jobs[next].Release)
		}
		for ; next < len(jobs) && jobs[next].Release <= now; next++ {
			heap.Push(q, next)
		}
		// Needs need not be asked: what a job needs is released no later, and its adjusted deadline is earlier, so that it runs ahead.
		j := jobs[heap.Pop(q).(int)]
		slots = append(slots, api.Slot{Task: j.Task, Job: int(j.N), Start: now})
		now += Budget(f, j.Task)
		if now > j.Deadline {
			return nil, false
		}
	}
	return slots, true
}
