package sample

import (
	"slices"

	"horarium/api"
	"horarium/sched"
	"horarium/valid"
)

// Changed is the plan, of one slot at least, with something changed, so that most are ill, and some are well. Pick is a number from 0 on, below n.
func Changed(pick func(n int) int, f api.Flat, p sched.Plan) sched.Plan {
	l := slices.Clone(p.Slots)
	i := pick(len(l))
	switch pick(12) {
	case 0, 1, 2:
		l[i].Start += int64(1 + pick(3))
	case 3, 4:
		l[i].Start -= int64(1 + pick(3))
	case 5, 6:
		other := &l[(i+1)%len(l)]
		l[i].Task, l[i].Job, other.Task, other.Job = other.Task, other.Job, l[i].Task, l[i].Job
	case 7:
		l[i].Job += pick(9) - 4
	case 8:
		l[i].Task = pick(len(f.Tasks)+2) - 1
	case 9:
		l = slices.Delete(l, i, i+1)
	case 10:
		l = put(l, api.Slot{Start: int64(pick(int(p.S + p.H))), Task: pick(len(f.Tasks)), Job: pick(8)})
	case 11:
		p.S += int64(pick(2))
		p.H += int64(pick(2))
	}
	p.Slots = l
	return p
}

// put is the slots, by their starts, with one more, if none starts as it does.
func put(l []api.Slot, s api.Slot) []api.Slot {
	at, there := slices.BinarySearchFunc(l, s.Start, func(s api.Slot, start int64) int { return int(s.Start - start) })
	if there {
		return l
	}
	return slices.Insert(l, at, s)
}

// Spread is the plan, which is well, and stays so, with each slot put off as far as it may be, by itself, or less.
func Spread(pick func(n int) int, f api.Flat, p sched.Plan) sched.Plan {
	p.Slots = slices.Clone(p.Slots)
	for i := range slices.Backward(p.Slots) {
		for range pick(4) {
			p.Slots[i].Start++
			if !valid.Well(f, p) {
				p.Slots[i].Start--
				break
			}
		}
	}
	return p
}

// Besides is the plan, which is well, and stays so, with some slots more, of jobs that come behind all that is asked of a plan.
func Besides(pick func(n int) int, f api.Flat, p sched.Plan) sched.Plan {
	for range 20 {
		if len(f.Tasks) == 0 {
			break
		}
		task := pick(len(f.Tasks))
		later := (int(p.S+2*p.H) + pick(100)) / int(f.Tasks[task].Clock.Period)
		q := p
		q.Slots = put(slices.Clone(p.Slots), api.Slot{Task: task, Job: later, Start: int64(pick(int(p.S + p.H)))})
		if valid.Well(f, q) {
			p = q
		}
	}
	return p
}
