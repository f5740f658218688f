package flat_test

import (
	"math/rand"
	"reflect"
	"slices"
	"strconv"
	"strings"
	"testing"

	"horarium/api"
	"horarium/check"
	"horarium/clock"
	"horarium/flat"
	"horarium/sample"
	"horarium/syntax"
)

// model makes a program flat by where its expressions lie in memory: a call's task is its place in the list of all calls.
type model struct {
	p      *api.Program
	clocks []api.Clock
	calls  []*api.Expr
}

// all is where the expression, and all that it holds, lies.
func all(e *api.Expr) []*api.Expr {
	l := []*api.Expr{e}
	for i := range e.Args {
		l = append(l, all(&e.Args[i])...)
	}
	return l
}

func (m *model) source(name string) (input, flow int) {
	return slices.IndexFunc(m.p.Inputs, func(i api.Input) bool { return i.Name == name }),
		slices.IndexFunc(m.p.Flows, func(f api.Flow) bool { return f.Name == name })
}

// arg is what the chapter says of an expression as an argument, from the inside out.
func (m *model) arg(e *api.Expr) api.Arg {
	switch e.Kind {
	case api.ECall:
		return api.Arg{Src: len(m.p.Inputs) + slices.Index(m.calls, e)}
	case api.EName:
		input, flow := m.source(e.Name)
		if input >= 0 {
			return api.Arg{Src: input}
		}
		return m.arg(&m.p.Flows[flow].E)
	}
	a := m.arg(&e.Args[0])
	a.Ops = append(a.Ops, api.Op{Kind: e.Kind, N: e.N, D: e.D})
	return a
}

func (m *model) clock(e *api.Expr) api.Clock {
	switch e.Kind {
	case api.ECall:
		return m.clock(&e.Args[0])
	case api.EName:
		input, flow := m.source(e.Name)
		if input >= 0 {
			return api.Clock{Period: m.p.Inputs[input].Period, Phase: m.p.Inputs[input].Phase}
		}
		return m.clocks[flow]
	}
	c, _ := clock.Apply(m.clock(&e.Args[0]), api.Op{Kind: e.Kind, N: e.N, D: e.D})
	return c
}

// meant is what the chapter says of a program that is well.
func meant(p api.Program, clocks []api.Clock) (api.Flat, int, api.Errno) {
	m := &model{p: &p, clocks: clocks}
	var exprs [][]*api.Expr
	for i := range p.Flows {
		exprs = append(exprs, all(&p.Flows[i].E))
		for _, e := range exprs[i] {
			if e.Kind == api.ECall {
				m.calls = append(m.calls, e)
			}
		}
	}
	if len(m.calls) > api.MaxTasks {
		return api.Flat{}, m.calls[api.MaxTasks].At, api.ErrLimit
	}
	for i, l := range exprs {
		for _, e := range l {
			if len(m.arg(e).Ops) > api.MaxOps {
				return api.Flat{}, p.Flows[i].At, api.ErrLimit
			}
		}
	}
	f := api.Flat{Nodes: p.Nodes}
	for i := range p.Inputs {
		f.Inputs = append(f.Inputs, m.clock(&api.Expr{Kind: api.EName, Name: p.Inputs[i].Name}))
	}
	for _, e := range m.calls {
		t := api.Task{Node: slices.IndexFunc(p.Nodes, func(n api.Node) bool { return n.Name == e.Name }), Clock: m.clock(e)}
		for i := range e.Args {
			t.Args = append(t.Args, m.arg(&e.Args[i]))
		}
		f.Tasks = append(f.Tasks, t)
	}
	for _, o := range p.Outputs {
		e := &api.Expr{Kind: api.EName, Name: o.Flow}
		f.Tells = append(f.Tells, api.Tell{Clock: m.clock(e), Arg: m.arg(e), Deadline: o.Deadline})
	}
	return f, 0, api.OK
}

// asMeant asks a program that is well; the answer is its error.
func asMeant(t *testing.T, s string, p api.Program, l []api.Clock) api.Errno {
	t.Helper()
	f, at, err := flat.Make(p, l)
	want, wantAt, wantErr := meant(p, l)
	if !reflect.DeepEqual(f, want) || at != wantAt || err != wantErr {
		t.Fatalf("%s\n%v, at %d, %v\nshould be\n%v, at %d, %v", s, f, at, err, want, wantAt, wantErr)
	}
	if !flat.Right(f) {
		t.Fatalf("%s\n%v isn't right", s, f)
	}
	return err
}

// P8.1, P8.3: what is made is as the chapter says, and right.
func TestProgramsAtRandom(t *testing.T) {
	r := rand.New(rand.NewSource(8))
	many := map[api.Errno]int{}
	for i := range 10000 {
		m := sample.Maker{Pick: r.Intn, Periods: []int64{4, 6, 10, 120}, Many: 1 + i%15, Deep: 1 + i%6, Budget: 1000, Deadline: 1000}
		s := m.Text()
		p, _, err := syntax.Parse(s)
		if err != api.OK {
			continue
		}
		if l, _, err := check.Check(p); err == api.OK {
			many[asMeant(t, s, p, l)]++
		}
	}
	if many[api.OK] < 3000 {
		t.Error(many)
	}
}

// deepText is flows of one clock in a row at random, each of some operators around the next one, or around a call that reads it so.
func deepText(r *rand.Rand) string {
	source, lines := "x", []string{head}
	rare := 1 + r.Intn(5)
	for i := range 1 + r.Intn(10) {
		e := fbys(r.Intn(8), source)
		if r.Intn(rare) == 0 {
			e = fbys(r.Intn(5), "n("+chain(r.Intn(5), "w")+", "+chain(r.Intn(5), e)+")")
		}
		source = "f" + strconv.Itoa(i)
		lines = slices.Insert(lines, r.Intn(len(lines)+1), "flow "+source+" = "+e+"; ")
	}
	return strings.Join(lines, "")
}

// P8.1: the 31st call is told, else the first flow that has too many operators.
func TestLimitsAtRandom(t *testing.T) {
	r := rand.New(rand.NewSource(88))
	many := map[api.Errno]int{}
	for range 5000 {
		s := deepText(r)
		p, l := read(t, s)
		_, at, _ := flat.Make(p, l)
		err := asMeant(t, s, p, l)
		if at > 0 && s[at] == 'f' {
			err = -err
		}
		many[err]++
	}
	// What is told below 0 are flows.
	if many[api.OK] < 500 || many[api.ErrLimit] < 100 || many[-api.ErrLimit] < 500 {
		t.Error(many)
	}
}
