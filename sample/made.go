package sample

import (
	"slices"

	"horarium/api"
	"horarium/check"
	"horarium/flat"
	"horarium/syntax"
)

// Made is the text's flat program, if there is one.
func Made(text string) (api.Flat, bool) {
	p, _, err := syntax.Parse(text)
	if err != api.OK {
		return api.Flat{}, false
	}
	clocks, _, err := check.Check(p)
	if err != api.OK {
		return api.Flat{}, false
	}
	f, _, err := flat.Make(p, clocks)
	return f, err == api.OK
}

// Row is tasks of the budgets, each of an input of its own, by the clocks.
func Row(budgets []int64, clocks ...api.Clock) api.Flat {
	f := api.Flat{Inputs: slices.Clone(clocks)}
	for i, c := range clocks {
		f.Nodes = append(f.Nodes, api.Node{Params: []string{"a"}, Budget: budgets[i]})
		f.Tasks = append(f.Tasks, api.Task{Node: i, Clock: c, Args: []api.Arg{{Src: i}}})
	}
	return f
}
