package check

import (
	"horarium/api"
	"horarium/body"
)

// names is how often each name was met.
type names map[string]int

// again meets a name; and tells whether it was met before.
func (l names) again(name string) bool {
	l[name]++
	return l[name] > 1
}

func (l names) has(name string) bool {
	return l[name] > 0
}

// Names is the error of the first name that isn't well, and where it is; 0, OK, if all are.
func Names(p api.Program) (int, api.Errno) {
	if !fits(p) {
		return 0, api.ErrLimit
	}
	for _, ask := range []func(api.Program) (int, api.Errno){askNodes, askSources, askExprs, askOutputs} {
		if at, err := ask(p); err != api.OK {
			return at, err
		}
	}
	return 0, api.OK
}

// askNodes asks each node's name, its parameters, and the names in its body.
func askNodes(p api.Program) (int, api.Errno) {
	nodes := names{}
	for _, n := range p.Nodes {
		if nodes.again(n.Name) {
			return n.At, api.ErrName
		}
		params := names{}
		for _, name := range n.Params {
			if params.again(name) {
				return n.At, api.ErrName
			}
		}
		for _, e := range body.Names(n.Body) {
			if !params.has(e.Name) {
				return e.At, api.ErrName
			}
		}
	}
	return 0, api.OK
}

// askSources asks the names of what has values: inputs, then flows.
func askSources(p api.Program) (int, api.Errno) {
	sources := names{}
	for _, i := range p.Inputs {
		if sources.again(i.Name) {
			return i.At, api.ErrName
		}
	}
	for _, f := range p.Flows {
		if sources.again(f.Name) {
			return f.At, api.ErrName
		}
	}
	return 0, api.OK
}

// askExprs asks all that is named in flows' expressions.
func askExprs(p api.Program) (int, api.Errno) {
	sources, arities := names{}, map[string]int{}
	for _, i := range p.Inputs {
		sources[i.Name]++
	}
	for _, f := range p.Flows {
		sources[f.Name]++
	}
	for _, n := range p.Nodes {
		arities[n.Name] = len(n.Params)
	}
	for e := range within(p.Flows) {
		if err := askExpr(e, sources, arities); err != api.OK {
			return e.At, err
		}
	}
	return 0, api.OK
}

// askExpr asks what the expression names by itself: a source, or a node with as many parameters.
func askExpr(e api.Expr, sources names, arities map[string]int) api.Errno {
	switch e.Kind {
	case api.EName:
		if !sources.has(e.Name) {
			return api.ErrName
		}
	case api.ECall:
		arity, there := arities[e.Name]
		if !there {
			return api.ErrName
		}
		if arity != len(e.Args) {
			return api.ErrArity
		}
	}
	return api.OK
}

// askOutputs asks each output's name, and its flow's.
func askOutputs(p api.Program) (int, api.Errno) {
	flows, outputs := names{}, names{}
	for _, f := range p.Flows {
		flows[f.Name]++
	}
	for _, o := range p.Outputs {
		if outputs.again(o.Name) || !flows.has(o.Flow) {
			return o.At, api.ErrName
		}
	}
	return 0, api.OK
}
