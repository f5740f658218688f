package check_test

import (
	"math/rand"
	"slices"
	"strconv"
	"testing"

	"horarium/api"
	"horarium/check"
	"horarium/clock"
	"horarium/lex"
	"horarium/sample"
)

// makerOf makes texts of programs at random, by a seed.
func makerOf(seed int64) (*sample.Maker, *rand.Rand) {
	r := rand.New(rand.NewSource(seed))
	return &sample.Maker{Pick: r.Intn, Periods: []int64{4, 6, 10, 120}, Many: 6, Deep: 3, Budget: 1, Deadline: 5}, r
}

// changed is the text with a name changed for another one of it, a number, or what a sign does.
func changed(r *rand.Rand, s string) string {
	tokens, _, _ := lex.Lex(s)
	out := tokens[r.Intn(len(tokens))]
	in := tokens[r.Intn(len(tokens))].Text
	numbers := []string{"1", "3", "50", "100"}
	switch {
	case out.N > 0:
		in = numbers[r.Intn(len(numbers))]
	case out.Text == "*^":
		in = "/^"
	case out.Text == "/^":
		in = "*^"
	case out.Text == "fby":
		in = "::"
	case out.Text[0] == 'n' && r.Intn(2) == 0:
		in = "n" + strconv.Itoa(1+r.Intn(3))
	case slices.Contains(lex.Words(), out.Text) || out.Text[0] < 'a' || in[0] < 'a':
		return changed(r, s)
	}
	return s[:out.At] + in + s[out.At+len(out.Text):]
}

// all is the expression and all that it holds, outside ahead of inside, from the left.
func all(e api.Expr) []api.Expr {
	l := []api.Expr{e}
	for _, a := range e.Args {
		l = append(l, all(a)...)
	}
	return l
}

// fault is a place and an error.
type fault struct {
	at  int
	err api.Errno
}

// meantNames is what the chapter says of names: all faults, in order, each found by a look at what stands ahead.
func meantNames(p api.Program) []fault {
	var l []fault
	put := func(wrong bool, at int, err api.Errno) {
		if wrong {
			l = append(l, fault{at, err})
		}
	}
	for i, n := range p.Nodes {
		put(slices.ContainsFunc(p.Nodes[:i], func(o api.Node) bool { return o.Name == n.Name }), n.At, api.ErrName)
		for j, s := range n.Params {
			put(slices.Contains(n.Params[:j], s), n.At, api.ErrName)
		}
		for _, e := range all(n.Body) {
			put(e.Kind == api.EParam && !slices.Contains(n.Params, e.Name), e.At, api.ErrName)
		}
	}
	var sources, flows, outputs []string
	for _, i := range p.Inputs {
		put(slices.Contains(sources, i.Name), i.At, api.ErrName)
		sources = append(sources, i.Name)
	}
	for _, f := range p.Flows {
		put(slices.Contains(sources, f.Name), f.At, api.ErrName)
		sources, flows = append(sources, f.Name), append(flows, f.Name)
	}
	for _, f := range p.Flows {
		for _, e := range all(f.E) {
			put(e.Kind == api.EName && !slices.Contains(sources, e.Name), e.At, api.ErrName)
			if e.Kind == api.ECall {
				i := slices.IndexFunc(p.Nodes, func(n api.Node) bool { return n.Name == e.Name })
				put(i < 0, e.At, api.ErrName)
				put(i >= 0 && len(p.Nodes[max(i, 0)].Params) != len(e.Args), e.At, api.ErrArity)
			}
		}
	}
	for _, o := range p.Outputs {
		put(slices.Contains(outputs, o.Name) || !slices.Contains(flows, o.Flow), o.At, api.ErrName)
		outputs = append(outputs, o.Name)
	}
	return l
}

// model has the clocks that are known, those of inputs ahead of those of flows.
type model struct {
	names []string
	found []*api.Clock
}

func modelOf(p api.Program) *model {
	m := &model{}
	for _, i := range p.Inputs {
		m.names, m.found = append(m.names, i.Name), append(m.found, &api.Clock{Period: i.Period, Phase: i.Phase})
	}
	for _, f := range p.Flows {
		m.names, m.found = append(m.names, f.Name), append(m.found, nil)
	}
	return m
}

// of is the expression's clock, nil as long as it isn't known. What an operator can't do it throws.
func (m *model) of(e api.Expr) *api.Clock {
	var l []*api.Clock
	switch e.Kind {
	case api.EName:
		return m.found[slices.Index(m.names, e.Name)]
	case api.ECall:
		for i := 0; i < len(e.Args) && (i == 0 || l[i-1] == nil); i++ {
			l = append(l, m.of(e.Args[i]))
		}
		return l[len(l)-1]
	}
	c := m.of(e.Args[0])
	if c == nil {
		return nil
	}
	made, err := clock.Apply(*c, api.Op{Kind: e.Kind, N: e.N, D: e.D})
	if err != api.OK {
		panic(fault{e.At, err})
	}
	return &made
}

// meantClocks is what the chapter says of a program's clocks.
func meantClocks(p api.Program) (l []api.Clock, f fault) {
	defer func() {
		if thrown, is := recover().(fault); is {
			l, f = nil, thrown
		}
	}()
	m := modelOf(p)
	flows := m.found[len(p.Inputs):]
	// Each round finds one at least, till there is none to be found.
	for range p.Flows {
		for i, f := range p.Flows {
			if flows[i] == nil {
				flows[i] = m.of(f.E)
			}
		}
	}
	if i := slices.Index(flows, nil); i >= 0 {
		return nil, fault{p.Flows[i].At, api.ErrCycle}
	}
	for i, f := range p.Flows {
		l = append(l, *flows[i])
		for _, e := range all(f.E) {
			for _, a := range e.Args {
				if e.Kind == api.ECall && *m.of(a) != *m.of(e.Args[0]) {
					return nil, fault{e.At, api.ErrClock}
				}
			}
		}
	}
	return l, fault{}
}

// asMeant asks all of a program, which may be wrong in many ways.
func asMeant(t *testing.T, s string, p api.Program) fault {
	t.Helper()
	var want fault
	if faults := meantNames(p); len(faults) > 0 {
		want = faults[0]
	}
	if at, err := check.Names(p); at != want.at || err != want.err {
		t.Fatalf("%s\nnames: at %d, %v; should be %v", s, at, err, want)
	}
	var wanted []api.Clock
	if want.err == api.OK {
		wanted, want = meantClocks(p)
		if l, at, err := check.Clocks(p); !slices.Equal(l, wanted) || at != want.at || err != want.err {
			t.Fatalf("%s\nclocks: %v at %d, %v; should be %v, %v", s, l, at, err, wanted, want)
		}
	}
	if l, at, err := check.Check(p); !slices.Equal(l, wanted) || at != want.at || err != want.err {
		t.Fatalf("%s\ncheck: %v at %d, %v; should be %v, %v", s, l, at, err, wanted, want)
	}
	return want
}

// P6.2, P6.3: clocks that were settled ahead are found, and all expressions' fit; what hangs on itself alone has none.
func TestSettledClocksAreFound(t *testing.T) {
	m, _ := makerOf(6)
	many := map[api.Errno]int{}
	for range 10000 {
		s := m.Text()
		p := read(t, s)
		l, at, err := check.Check(p)
		many[err]++
		if want := asMeant(t, s, p); want.err == api.ErrCycle {
			continue
		}
		if !slices.Equal(l, m.Flows) || at != 0 || err != api.OK {
			t.Fatalf("%s\n%v at %d, %v; should be %v", s, l, at, err, m.Flows)
		}
		fitting(t, s, p, l)
	}
	if many[api.OK] < 5000 || many[api.ErrCycle] < 500 {
		t.Error(many)
	}
}

// fitting asks that flows' clocks are right, and that each expression has one, by the chapter's words.
func fitting(t *testing.T, s string, p api.Program, l []api.Clock) {
	t.Helper()
	m := modelOf(p)
	for i := range l {
		m.found[len(p.Inputs)+i] = &l[i]
	}
	for i, f := range p.Flows {
		if !clock.Right(l[i]) || *m.of(f.E) != l[i] {
			t.Fatalf("%s\n%v, %v", s, l[i], *m.of(f.E))
		}
		for _, e := range all(f.E) {
			for _, a := range e.Args {
				if c := *m.of(a); !clock.Right(c) || e.Kind == api.ECall && c != *m.of(e) {
					t.Fatalf("%s\n%v, %v", s, c, *m.of(e))
				}
			}
		}
	}
}

// P6.2: what is found doesn't hang on the order of flows.
func TestFoundInAnyOrder(t *testing.T) {
	m, r := makerOf(66)
	for range 2000 {
		s := m.Text()
		p := read(t, s)
		if _, _, err := check.Check(p); err != api.OK {
			continue
		}
		order := r.Perm(len(p.Flows))
		flows, want := make([]api.Flow, len(order)), make([]api.Clock, len(order))
		for i, from := range order {
			flows[i], want[i] = p.Flows[from], m.Flows[from]
		}
		p.Flows = flows
		if l, at, err := check.Check(p); !slices.Equal(l, want) || at != 0 || err != api.OK {
			t.Fatalf("%s, by %v\n%v at %d, %v; should be %v", s, order, l, at, err, want)
		}
	}
}

// P6.1, P6.2: programs in which a few tokens were changed have the errors that the chapter says, where it says.
func TestChangedPrograms(t *testing.T) {
	m, r := makerOf(666)
	many := map[api.Errno]int{}
	for range 30000 {
		s := m.Text()
		for range 1 + r.Intn(4) {
			s = changed(r, s)
		}
		if p, ok := readable(s); ok {
			many[asMeant(t, s, p).err]++
		}
	}
	for _, err := range []api.Errno{api.OK, api.ErrName, api.ErrArity, api.ErrClock, api.ErrRange, api.ErrCycle} {
		if many[err] < 10 {
			t.Error(err, many)
		}
	}
}
