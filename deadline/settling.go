package deadline

import (
	"iter"

	"horarium/api"
	"horarium/clock"
	"horarium/flat"
)

// readers goes through all arguments, those of tasks and then those of tells, each with its tell's deadline, or 0.
func readers(f api.Flat) iter.Seq2[api.Arg, int64] {
	return func(yield func(api.Arg, int64) bool) {
		for _, t := range f.Tasks {
			for _, a := range t.Args {
				if !yield(a, 0) {
					return
				}
			}
		}
		for _, t := range f.Tells {
			if !yield(t.Arg, t.Deadline) {
				return
			}
		}
	}
}

// clocksOf is the clock of the argument's source, and those behind each of its operators.
func clocksOf(f api.Flat, a api.Arg) []api.Clock {
	c, _ := flat.Source(f, a.Src)
	l := []api.Clock{c}
	for _, o := range a.Ops {
		// All is right, so that no operator fails.
		c, _ = clock.Apply(c, o)
		l = append(l, c)
	}
	return l
}

// settling is, of an argument's clocks, the last one's phase, and the periods on both sides of each operator.
func settling(l []api.Clock) int64 {
	sum := l[len(l)-1].Phase
	for i, c := range l[1:] {
		sum += l[i].Period + c.Period
	}
	return sum
}
