package cells

import (
	"horarium/api"
	"horarium/sched"
)

// put is that the value of a task's job comes to its cell; last is its last use, 0 if it has none.
type put struct {
	job  int
	time int64
	last int64
}

// putsOf is, of each task, what is put, by times, of all slots up to the horizon.
func putsOf(f api.Flat, p sched.Plan) [][]put {
	last := lastUses(f, p, horizon(p))
	l := make([][]put, len(f.Tasks))
	for _, s := range sched.Expand(f, p, horizon(p)) {
		l[s.Task] = append(l[s.Task], put{
			job:  s.Job,
			time: s.Start + sched.Budget(f, s.Task),
			last: last[job{s.Task, int64(s.Job)}],
		})
	}
	return l
}

// least is the least number of cells, 1 at least, with which no value comes to a cell whose value is still used.
func least(puts []put) int {
	clash := clashes(puts)
	many := 1
	for meet(clash, many) {
		many++
	}
	return many
}

// meet is whether, with so many cells, two values that clash have the same one: the distance of their jobs' numbers is divisible by it.
func meet(clash []bool, many int) bool {
	for distance := many; distance < len(clash); distance += many {
		if clash[distance] {
			return true
		}
	}
	return false
}

// clashes is, of each distance, whether there are two jobs so far from each other of which one's value is put when the other's has been, and is used then, or later. A job behind all that layer 13 asks may have two slots; its value doesn't clash with itself, since the distance 0 isn't asked.
func clashes(puts []put) []bool {
	greatest := 0
	for _, v := range puts {
		greatest = max(greatest, v.job)
	}
	clash := make([]bool, greatest+1)
	for i, v := range puts {
		for _, next := range puts[i+1:] {
			if next.time > v.last {
				break
			}
			clash[max(v.job, next.job)-min(v.job, next.job)] = true
		}
	}
	return clash
}
