package sample

import (
	"slices"

	"horarium/api"
	"horarium/clock"
	"horarium/flat"
	"horarium/syntax"
)

// Flats makes flat programs that are right, whose tasks read each other and themselves, such as none need have written.
type Flats struct {
	Pick     func(n int) int // a number from 0 on, below n
	Clocks   []api.Clock     // of the inputs: one of each, and of all that reads
	Tasks    int             // the most, 1 at least
	Tells    int             // the most
	Budget   int             // the greatest, of a node
	Deadline int             // the greatest, of a tell
}

const nodes = "node m(a) budget 1 { a * 3 - 1 } node n(a, b) budget 1 { a - b * 2 } node k(a, b, c) budget 1 { a ? b + 1 : c }"

// Flat is a flat program.
func (m Flats) Flat() api.Flat {
	p, _, _ := syntax.Parse(nodes)
	f := api.Flat{
		Inputs: slices.Clone(m.Clocks),
		Nodes:  p.Nodes,
		Tasks:  make([]api.Task, 1+m.Pick(m.Tasks)),
		Tells:  make([]api.Tell, m.Pick(m.Tells+1)),
	}
	for i := range f.Nodes {
		f.Nodes[i].Budget = m.upTo(m.Budget)
	}
	for i := range f.Tasks {
		f.Tasks[i] = api.Task{Node: m.Pick(len(f.Nodes)), Clock: m.clock()}
	}
	for i, t := range f.Tasks {
		for range f.Nodes[t.Node].Params {
			f.Tasks[i].Args = append(f.Tasks[i].Args, m.arg(f, t.Clock))
		}
	}
	for i := range f.Tells {
		c := m.clock()
		f.Tells[i] = api.Tell{Clock: c, Arg: m.arg(f, c), Deadline: m.upTo(m.Deadline)}
	}
	return f
}

func (m Flats) clock() api.Clock {
	return m.Clocks[m.Pick(len(m.Clocks))]
}

func (m Flats) upTo(most int) int64 {
	return int64(1 + m.Pick(most))
}

// arg is an argument that has the clock, of some source; else of the input that has it.
func (m Flats) arg(f api.Flat, c api.Clock) api.Arg {
	src := m.Pick(len(f.Inputs) + len(f.Tasks))
	source, _ := flat.Source(f, src)
	if l, found := m.ops(source, c); found {
		return api.Arg{Src: src, Ops: l}
	}
	return api.Arg{Src: slices.Index(f.Inputs, c)}
}

// ops are operators that make the clock of the source's, if some try finds such.
func (m Flats) ops(source, c api.Clock) ([]api.Op, bool) {
	for range 100 {
		l := make([]api.Op, m.Pick(6))
		for i := range l {
			l[i] = api.Op{Kind: api.EOver + m.Pick(api.ECons-api.EOver+1), N: m.upTo(3), D: m.upTo(2)}
			if l[i].Kind == api.EShift {
				l[i].N = int64(m.Pick(3))
			}
		}
		if made, err := clock.All(source, l); err == api.OK && made == c {
			return l, true
		}
	}
	return nil, false
}
