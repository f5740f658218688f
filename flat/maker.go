package flat

import (
	"iter"
	"slices"
	"strconv"

	"horarium/api"
	"horarium/clock"
)

// way is the way to an expression: its flow's place, and then, each behind a /, the places of the arguments through which it goes down.
type way string

// spot is an expression, and the way to it: one may look just like another one, and only the way tells which it is.
type spot struct {
	e   api.Expr
	way way
}

// flowSpot is where the i-th flow's expression stands.
func flowSpot(p api.Program, i int) spot {
	return spot{e: p.Flows[i].E, way: way(strconv.Itoa(i))}
}

// arg is where the i-th argument stands.
func (s spot) arg(i int) spot {
	return spot{e: s.e.Args[i], way: s.way + "/" + way(strconv.Itoa(i))}
}

// within goes through the expression and all that it holds, outside ahead of inside, from the left.
func within(s spot) iter.Seq[spot] {
	return func(yield func(spot) bool) {
		visit(s, yield)
	}
}

func visit(s spot, show func(spot) bool) bool {
	if !show(s) {
		return false
	}
	for i := range s.e.Args {
		if !visit(s.arg(i), show) {
			return false
		}
	}
	return true
}

// maker makes one program flat.
type maker struct {
	p                    api.Program
	clocks               map[string]api.Clock // of inputs and flows
	inputs, flows, nodes map[string]int       // their places
	numbers              map[way]int          // of calls: their tasks
}

func newMaker(p api.Program, clocks []api.Clock) *maker {
	m := &maker{p: p, clocks: map[string]api.Clock{}, inputs: map[string]int{}, flows: map[string]int{}, nodes: map[string]int{}, numbers: map[way]int{}}
	for i, input := range p.Inputs {
		m.inputs[input.Name] = i
		m.clocks[input.Name] = inputClock(input)
	}
	for i, f := range p.Flows {
		m.flows[f.Name] = i
		m.clocks[f.Name] = clocks[i]
	}
	for i, n := range p.Nodes {
		m.nodes[n.Name] = i
	}
	return m
}

func inputClock(i api.Input) api.Clock {
	return api.Clock{Period: i.Period, Phase: i.Phase}
}

// calls goes through the calls in the i-th flow's expression, in the order of their tasks.
func (m *maker) calls(i int) iter.Seq[spot] {
	return func(yield func(spot) bool) {
		for s := range within(flowSpot(m.p, i)) {
			if s.e.Kind == api.ECall && !yield(s) {
				return
			}
		}
	}
}

// number gives each call its task's number; or tells the call that is too many.
func (m *maker) number() (int, api.Errno) {
	next := 0
	for i := range m.p.Flows {
		for call := range m.calls(i) {
			if next == api.MaxTasks {
				return call.e.At, api.ErrLimit
			}
			m.numbers[call.way] = next
			next++
		}
	}
	return 0, api.OK
}

// askOps asks whether each flow's expression, and each argument in it, has at most MaxOps operators.
func (m *maker) askOps() (int, api.Errno) {
	for i, f := range m.p.Flows {
		few := m.few(flowSpot(m.p, i))
		for call := range m.calls(i) {
			for j := range call.e.Args {
				few = few && m.few(call.arg(j))
			}
		}
		if !few {
			return f.At, api.ErrLimit
		}
	}
	return 0, api.OK
}

func (m *maker) few(s spot) bool {
	return len(m.argOf(s).Ops) <= api.MaxOps
}

// argOf is the expression as an argument; it goes no further than to the first operator that is too many.
func (m *maker) argOf(s spot) api.Arg {
	var a api.Arg
	for len(a.Ops) <= api.MaxOps {
		if s.e.Kind == api.ECall {
			a.Src = len(m.p.Inputs) + m.numbers[s.way]
			break
		}
		if s.e.Kind != api.EName {
			a.Ops = append(a.Ops, operator(s.e))
			s = s.arg(0)
			continue
		}
		flow, is := m.flows[s.e.Name]
		if !is {
			a.Src = m.inputs[s.e.Name]
			break
		}
		s = flowSpot(m.p, flow)
	}
	// They were met from the outside.
	slices.Reverse(a.Ops)
	return a
}

func operator(e api.Expr) api.Op {
	return api.Op{Kind: e.Kind, N: e.N, D: e.D}
}

// clockOf is the expression's clock. All is well, so that no operator fails.
func (m *maker) clockOf(e api.Expr) api.Clock {
	switch e.Kind {
	case api.EName:
		return m.clocks[e.Name]
	case api.ECall:
		return m.clockOf(e.Args[0])
	}
	c, _ := clock.Apply(m.clockOf(e.Args[0]), operator(e))
	return c
}

// flat is the flat program, once its calls have numbers.
func (m *maker) flat() api.Flat {
	var f api.Flat
	for _, i := range m.p.Inputs {
		f.Inputs = append(f.Inputs, inputClock(i))
	}
	for _, n := range m.p.Nodes {
		n.Params, n.Body = slices.Clone(n.Params), copied(n.Body)
		f.Nodes = append(f.Nodes, n)
	}
	for i := range m.p.Flows {
		for call := range m.calls(i) {
			f.Tasks = append(f.Tasks, m.task(call))
		}
	}
	for _, o := range m.p.Outputs {
		arg := m.argOf(flowSpot(m.p, m.flows[o.Flow]))
		f.Tells = append(f.Tells, api.Tell{Clock: m.clocks[o.Flow], Arg: arg, Deadline: o.Deadline})
	}
	return f
}

func (m *maker) task(call spot) api.Task {
	t := api.Task{Node: m.nodes[call.e.Name], Clock: m.clockOf(call.e)}
	for i := range call.e.Args {
		t.Args = append(t.Args, m.argOf(call.arg(i)))
	}
	return t
}

// copied is the expression in new memory.
func copied(e api.Expr) api.Expr {
	e.Args = slices.Clone(e.Args)
	for i, a := range e.Args {
		e.Args[i] = copied(a)
	}
	return e
}
