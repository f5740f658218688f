package order

import (
	"container/heap"
	"sort"

	"horarium/api"
)

// queue is a heap of tasks, the least one first.
type queue struct {
	sort.IntSlice
}

// Push is for container/heap alone.
func (q *queue) Push(t any) {
	q.IntSlice = append(q.IntSlice, t.(int))
}

// Pop is for container/heap alone.
func (q *queue) Pop() any {
	last := q.Len() - 1
	t := q.IntSlice[last]
	q.IntSlice = q.IntSlice[:last]
	return t
}

// waiting is the tasks that aren't in the order yet.
type waiting struct {
	ready   queue   // those that wait for none
	many    []int   // of each task: for how many it waits
	readers [][]int // of each task: those that hang on it
}

func newWaiting(f api.Flat) *waiting {
	w := &waiting{many: make([]int, len(f.Tasks)), readers: make([][]int, len(f.Tasks))}
	for t := range f.Tasks {
		hangs := Hangs(f, t)
		w.many[t] = len(hangs)
		for _, source := range hangs {
			w.readers[source] = append(w.readers[source], t)
		}
		if len(hangs) == 0 {
			heap.Push(&w.ready, t)
		}
	}
	return w
}

// next takes the least task that is ready; those that waited for it alone are ready then.
func (w *waiting) next() int {
	t := heap.Pop(&w.ready).(int)
	for _, reader := range w.readers[t] {
		w.many[reader]--
		if w.many[reader] == 0 {
			heap.Push(&w.ready, reader)
		}
	}
	return t
}
