package stream

import (
	"horarium/api"
	"horarium/body"
	"horarium/clock"
	"horarium/flat"
	"horarium/index"
	"horarium/order"
)

// What layer 7's Back tells that a value comes from.
const (
	fromSource = 1
	fromNumber = 2
)

// meaning is what a flat program means, as far as it is reckoned.
type meaning struct {
	f      api.Flat
	in     [][]int64 // of each input; lists may be missing
	values [][]int64 // of each task, up to the last date that was reckoned
}

// reckon has all values of tasks whose dates are below until.
func reckon(f api.Flat, in [][]int64, until int64) (*meaning, api.Errno) {
	if !flat.Right(f) || !canBeAsked(until) {
		return nil, api.ErrArg
	}
	tasks, err := order.Of(f)
	if err != api.OK {
		return nil, err
	}
	m := &meaning{f: f, in: in, values: make([][]int64, len(f.Tasks))}
	for date := range until {
		m.step(tasks, date)
	}
	return m, api.OK
}

// step reckons the tasks' values of the date. What one of them reads is of an earlier date, or of this one and of a task that is ahead in the order.
func (m *meaning) step(tasks []int, date int64) {
	for _, t := range tasks {
		next := int64(len(m.values[t]))
		if clock.Date(m.f.Tasks[t].Clock, next) == date {
			m.values[t] = append(m.values[t], m.job(m.f.Tasks[t], next))
		}
	}
}

// job is the task's n-th value.
func (m *meaning) job(t api.Task, n int64) int64 {
	args := make([]int64, len(t.Args))
	for i, a := range t.Args {
		args[i] = m.value(a, n)
	}
	return body.Eval(m.f.Nodes[t.Node], args)
}

// value is the argument's n-th value.
func (m *meaning) value(a api.Arg, n int64) int64 {
	place, number, kind := index.Back(a.Ops, n)
	switch kind {
	case fromSource:
		return nth(m.source(a.Src), place)
	case fromNumber:
		return number
	}
	return 0
}

// source is the values of the i-th source.
func (m *meaning) source(i int) []int64 {
	inputs := len(m.f.Inputs)
	if i >= inputs {
		return m.values[i-inputs]
	}
	if i < len(m.in) {
		return m.in[i]
	}
	return nil
}

// nth is the list's n-th value, 0 where it has none.
func nth(l []int64, n int64) int64 {
	if n < 0 || n >= int64(len(l)) {
		return 0
	}
	return l[n]
}
