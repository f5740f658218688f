package check

import (
	"horarium/api"
	"horarium/clock"
)

// clocks is the clocks that are known, by the names of inputs and flows.
type clocks map[string]api.Clock

// told is what can be told of an expression's clock: it, if it is known; or what is wrong with it, and where; or nothing yet.
type told struct {
	clock api.Clock
	known bool
	at    int
	err   api.Errno
}

// Clocks is the clock of each flow; or the first error that is met, and where it is.
func Clocks(p api.Program) ([]api.Clock, int, api.Errno) {
	if !fits(p) {
		return nil, 0, api.ErrLimit
	}
	known := clocks{}
	for _, i := range p.Inputs {
		known[i.Name] = api.Clock{Period: i.Period, Phase: i.Phase}
	}
	for _, step := range []func([]api.Flow) (int, api.Errno){known.find, known.askFound, known.askCalls, known.askFlows} {
		if at, err := step(p.Flows); err != api.OK {
			return nil, at, err
		}
	}
	l := make([]api.Clock, len(p.Flows))
	for i, f := range p.Flows {
		l[i] = known[f.Name]
	}
	return l, 0, api.OK
}

// find finds the flows' clocks, round by round; what is found counts at once, for the flows behind it in the same round.
func (known clocks) find(flows []api.Flow) (int, api.Errno) {
	for found := true; found; {
		found = false
		for _, f := range flows {
			if _, before := known[f.Name]; before {
				continue
			}
			t := known.tell(f.E)
			if t.err != api.OK {
				return t.at, t.err
			}
			if t.known {
				known[f.Name] = t.clock
				found = true
			}
		}
	}
	return 0, api.OK
}

// tell is what can be told of the expression's clock, as far as clocks are known.
func (known clocks) tell(e api.Expr) told {
	if e.Kind == api.EName {
		c, is := known[e.Name]
		return told{clock: c, known: is}
	}
	source := known.first(e.Args)
	if e.Kind == api.ECall || !source.known {
		return source
	}
	made, err := clock.Apply(source.clock, api.Op{Kind: e.Kind, N: e.N, D: e.D})
	if err != api.OK {
		return told{at: e.At, err: err}
	}
	return told{clock: made, known: true}
}

// first is what is told of the first expression of which anything can be; those behind it aren't asked.
func (known clocks) first(l []api.Expr) told {
	for _, e := range l {
		if t := known.tell(e); t.known || t.err != api.OK {
			return t
		}
	}
	return told{}
}

// askFound asks whether each flow has a clock.
func (known clocks) askFound(flows []api.Flow) (int, api.Errno) {
	for _, f := range flows {
		if _, found := known[f.Name]; !found {
			return f.At, api.ErrCycle
		}
	}
	return 0, api.OK
}

// askCalls asks whether the arguments of each call have one clock.
func (known clocks) askCalls(flows []api.Flow) (int, api.Errno) {
	for e := range within(flows) {
		if e.Kind != api.ECall {
			continue
		}
		if at, err := known.askCall(e); err != api.OK {
			return at, err
		}
	}
	return 0, api.OK
}

// askCall asks it of one call, from the left. An operator that its clock was found without may turn out wrong only now.
func (known clocks) askCall(call api.Expr) (int, api.Errno) {
	var first api.Clock
	for i, a := range call.Args {
		t := known.tell(a)
		if t.err != api.OK {
			return t.at, t.err
		}
		if i == 0 {
			first = t.clock
		}
		if t.clock != first {
			return call.At, api.ErrClock
		}
	}
	return 0, api.OK
}

// askFlows asks whether each flow's clock is its expression's, now that all are known.
func (known clocks) askFlows(flows []api.Flow) (int, api.Errno) {
	for _, f := range flows {
		if known.tell(f.E).clock != known[f.Name] {
			return f.At, api.ErrClock
		}
	}
	return 0, api.OK
}
