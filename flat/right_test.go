package flat_test

import (
	"math"
	"reflect"
	"slices"
	"strings"
	"testing"

	"horarium/api"
	"horarium/check"
	"horarium/flat"
)

// P8.2
func TestSource(t *testing.T) {
	f := api.Flat{
		Inputs: []api.Clock{{Period: 10}, {Period: 20, Phase: 5}},
		Tasks:  []api.Task{{Clock: api.Clock{Period: 30}}, {Clock: api.Clock{Period: -1, Phase: 7}}, {}},
		Tells:  []api.Tell{{Clock: api.Clock{Period: 40}}},
	}
	want := []api.Clock{{Period: 10}, {Period: 20, Phase: 5}, {Period: 30}, {Period: -1, Phase: 7}, {}}
	for i, c := range want {
		if got, ok := flat.Source(f, i); got != c || !ok {
			t.Error(i, got, ok)
		}
	}
	for _, i := range []int{5, 6, 7, 100, -1, -2, -5, math.MaxInt, math.MinInt} {
		if got, ok := flat.Source(f, i); got != (api.Clock{}) || ok {
			t.Error(i, got, ok)
		}
	}
	for _, i := range []int{0, 1, -1} {
		if got, ok := flat.Source(api.Flat{}, i); got != (api.Clock{}) || ok {
			t.Error(i, got, ok)
		}
	}
}

// sound is a flat program that is right, made anew: a task of two parameters that reads itself, one of one that reads that, and two tells.
func sound() api.Flat {
	every := api.Clock{Period: 10}
	return api.Flat{
		Inputs: []api.Clock{every, {Period: 20, Phase: 40}},
		Nodes:  []api.Node{{Name: "n", Params: []string{"a", "b"}, Budget: 2}, {Name: "m", Params: []string{"a"}, Budget: 1}},
		Tasks: []api.Task{
			{Node: 0, Clock: every, Args: []api.Arg{{Src: 0}, {Src: 2, Ops: []api.Op{{Kind: api.EFby}}}}},
			{Node: 1, Clock: api.Clock{Period: 5, Phase: 20}, Args: []api.Arg{{Src: 2, Ops: []api.Op{{Kind: api.ETail}, {Kind: api.EShift, N: 2, D: 2}, {Kind: api.EOver, N: 2}}}}},
		},
		Tells: []api.Tell{
			{Clock: api.Clock{Period: 20, Phase: 40}, Arg: api.Arg{Src: 1}, Deadline: 1000},
			{Clock: api.Clock{Period: 15, Phase: 20}, Arg: api.Arg{Src: 3, Ops: []api.Op{{Kind: api.EUnder, N: 3}}}, Deadline: 1},
		},
	}
}

// inputs is a flat program that has but inputs: one that is right, and another one.
func inputs(c api.Clock) api.Flat {
	return api.Flat{Inputs: []api.Clock{{Period: 1}, c}}
}

// rightIs asks whether what the changes make of a sound program is right.
func rightIs(t *testing.T, want bool, changes map[string]func(*api.Flat)) {
	t.Helper()
	for name, change := range changes {
		f := sound()
		change(&f)
		if flat.Right(f) != want {
			t.Errorf("%s: right should be %v", name, want)
		}
	}
}

// P8.2: what may be otherwise.
func TestRight(t *testing.T) {
	rightIs(t, true, map[string]func(*api.Flat){
		"as it is":        func(f *api.Flat) {},
		"nothing":         func(f *api.Flat) { *f = api.Flat{} },
		"no tells":        func(f *api.Flat) { f.Tells = nil },
		"no tasks":        func(f *api.Flat) { f.Tasks, f.Tells = nil, f.Tells[:1] },
		"greatest period": func(f *api.Flat) { *f = inputs(api.Clock{Period: api.MaxHyper}) },
		"greatest phase":  func(f *api.Flat) { *f = inputs(api.Clock{Period: 1, Phase: api.MaxHyper}) },
		"most tasks":      func(f *api.Flat) { f.Tasks = append(f.Tasks, slices.Repeat(f.Tasks[:1], api.MaxTasks-2)...) },
		"many more": func(f *api.Flat) {
			f.Inputs = append(f.Inputs, slices.Repeat(f.Inputs, 100)...)
			f.Tasks, f.Tells = nil, nil
		},
		"many nodes":         func(f *api.Flat) { f.Nodes = append(f.Nodes, slices.Repeat(f.Nodes, 100)...) },
		"many tells":         func(f *api.Flat) { f.Tells = slices.Repeat(f.Tells, 1000) },
		"unused params":      func(f *api.Flat) { f.Nodes = append(f.Nodes, api.Node{Budget: 1}) },
		"budget 1":           func(f *api.Flat) { f.Nodes[0].Budget = 1 },
		"budget greatest":    func(f *api.Flat) { f.Nodes[0].Budget = api.MaxTicks },
		"deadline greatest":  func(f *api.Flat) { f.Tells[1].Deadline = api.MaxTicks },
		"another node's":     func(f *api.Flat) { f.Nodes[0].Params = []string{"", ""} },
		"twenty operators":   func(f *api.Flat) { f.Tasks[0].Args[1].Ops = slices.Repeat([]api.Op{{Kind: api.EFby}}, 20) },
		"twenty of a tell's": func(f *api.Flat) { f.Tells[0].Arg.Ops = slices.Repeat([]api.Op{{Kind: api.EFby}}, 20) },
		"reads a later task": func(f *api.Flat) {
			f.Tasks[0].Args[0] = api.Arg{Src: 3, Ops: []api.Op{{Kind: api.ECons}, {Kind: api.ECons}, {Kind: api.ECons}, {Kind: api.ECons}, {Kind: api.EUnder, N: 2}}}
		},
		"reads itself": func(f *api.Flat) { f.Tasks[0].Args[0] = api.Arg{Src: 2} },
		"seven of parameters": func(f *api.Flat) {
			f.Nodes[1].Params = make([]string, 7)
			f.Tasks[1].Args = slices.Repeat(f.Tasks[1].Args, 7)
		},
	})
}

// P8.2: clocks, budgets, deadlines, and how many tasks.
func TestWrongNumbers(t *testing.T) {
	rightIs(t, false, map[string]func(*api.Flat){
		"no period":          func(f *api.Flat) { *f = inputs(api.Clock{}) },
		"period below 0":     func(f *api.Flat) { *f = inputs(api.Clock{Period: -1}) },
		"period too great":   func(f *api.Flat) { *f = inputs(api.Clock{Period: api.MaxHyper + 1}) },
		"phase below 0":      func(f *api.Flat) { *f = inputs(api.Clock{Period: 1, Phase: -1}) },
		"phase too great":    func(f *api.Flat) { *f = inputs(api.Clock{Period: 1, Phase: api.MaxHyper + 1}) },
		"first input":        func(f *api.Flat) { *f = api.Flat{Inputs: []api.Clock{{}, {Period: 1}}} },
		"only an input":      func(f *api.Flat) { *f = api.Flat{Inputs: []api.Clock{{}}} },
		"too many tasks":     func(f *api.Flat) { f.Tasks = append(f.Tasks, slices.Repeat(f.Tasks[:1], api.MaxTasks-1)...) },
		"far too many tasks": func(f *api.Flat) { f.Tasks = append(f.Tasks, slices.Repeat(f.Tasks[:1], 100000)...) },
		"budget 0":           func(f *api.Flat) { f.Nodes[0].Budget = 0 },
		"budget below 0":     func(f *api.Flat) { f.Nodes[1].Budget = -1 },
		"budget too great":   func(f *api.Flat) { f.Nodes[1].Budget = api.MaxTicks + 1 },
		"budget least":       func(f *api.Flat) { f.Nodes[1].Budget = math.MinInt64 },
		"unused budget":      func(f *api.Flat) { f.Nodes = append(f.Nodes, api.Node{Params: []string{"a"}}) },
		"only a node":        func(f *api.Flat) { *f = api.Flat{Nodes: []api.Node{{Budget: 1001}}} },
		"deadline 0":         func(f *api.Flat) { f.Tells[0].Deadline = 0 },
		"deadline below 0":   func(f *api.Flat) { f.Tells[1].Deadline = -5 },
		"deadline too great": func(f *api.Flat) { f.Tells[1].Deadline = api.MaxTicks + 1 },
		"deadline greatest":  func(f *api.Flat) { f.Tells[0].Deadline = math.MaxInt64 },
	})
}

// P8.2: tasks' nodes, and their parameters.
func TestWrongNodes(t *testing.T) {
	rightIs(t, false, map[string]func(*api.Flat){
		"no such node":        func(f *api.Flat) { f.Tasks[1].Node = 2 },
		"node below 0":        func(f *api.Flat) { f.Tasks[0].Node = -1 },
		"node far off":        func(f *api.Flat) { f.Tasks[1].Node = math.MaxInt },
		"node far below":      func(f *api.Flat) { f.Tasks[1].Node = math.MinInt },
		"no nodes":            func(f *api.Flat) { f.Nodes = nil },
		"another node's":      func(f *api.Flat) { f.Tasks[1].Node = 0 },
		"too few arguments":   func(f *api.Flat) { f.Tasks[0].Args = f.Tasks[0].Args[:1] },
		"too many arguments":  func(f *api.Flat) { f.Tasks[0].Args = append(f.Tasks[0].Args, f.Tasks[0].Args[0]) },
		"no arguments":        func(f *api.Flat) { f.Tasks[1].Args = nil },
		"none of none":        func(f *api.Flat) { f.Tasks[1].Args, f.Nodes[1].Params = nil, nil },
		"none of none, empty": func(f *api.Flat) { f.Tasks[1].Args, f.Nodes[1].Params = []api.Arg{}, []string{} },
		"too many parameters": func(f *api.Flat) { f.Nodes[0].Params = append(f.Nodes[0].Params, "c") },
	})
}

// P8.2: sources, operators, and what clock they make.
func TestWrongArguments(t *testing.T) {
	every := api.Clock{Period: 10}
	cons := api.Op{Kind: api.ECons}
	for name, change := range map[string]func(*api.Arg, *api.Clock){
		"no such source":         func(a *api.Arg, c *api.Clock) { a.Src = 4 },
		"source below 0":         func(a *api.Arg, c *api.Clock) { a.Src = -1 },
		"source far off":         func(a *api.Arg, c *api.Clock) { a.Src = math.MaxInt },
		"source far below":       func(a *api.Arg, c *api.Clock) { a.Src = math.MinInt },
		"another source":         func(a *api.Arg, c *api.Clock) { a.Src = 1 },
		"too many operators":     func(a *api.Arg, c *api.Clock) { a.Ops = slices.Repeat([]api.Op{{Kind: api.EFby}}, 21) },
		"far too many operators": func(a *api.Arg, c *api.Clock) { a.Ops = slices.Repeat([]api.Op{{Kind: api.EFby}}, 100000) },
		"another period":         func(a *api.Arg, c *api.Clock) { a.Ops = []api.Op{{Kind: api.EOver, N: 2}} },
		"another phase":          func(a *api.Arg, c *api.Clock) { a.Ops = []api.Op{{Kind: api.ETail}} },
		"ahead of 0":             func(a *api.Arg, c *api.Clock) { a.Ops = []api.Op{cons, {Kind: api.ETail}} },
		"no kind":                func(a *api.Arg, c *api.Clock) { a.Ops = []api.Op{{}} },
		"a call's kind":          func(a *api.Arg, c *api.Clock) { a.Ops = []api.Op{{Kind: api.ECall}} },
		"no factor":              func(a *api.Arg, c *api.Clock) { a.Ops = []api.Op{{Kind: api.EUnder}} },
		"parts of a tick":        func(a *api.Arg, c *api.Clock) { a.Ops = []api.Op{{Kind: api.EOver, N: 3}, {Kind: api.EUnder, N: 3}} },
		"clock's period":         func(a *api.Arg, c *api.Clock) { c.Period = 20 },
		"clock's phase":          func(a *api.Arg, c *api.Clock) { c.Phase = 10 },
		"no clock":               func(a *api.Arg, c *api.Clock) { *c = api.Clock{} },
		"no clock, none made":    func(a *api.Arg, c *api.Clock) { *c, a.Ops = api.Clock{}, []api.Op{cons} },
	} {
		f := sound()
		f.Tells[0] = api.Tell{Clock: every, Deadline: 3}
		if !flat.Right(f) {
			t.Fatal(f)
		}
		change(&f.Tells[0].Arg, &f.Tells[0].Clock)
		if flat.Right(f) {
			t.Errorf("%s, of a tell: right", name)
		}
		for i := range 2 {
			f := sound()
			f.Tasks[0].Args[1-i] = api.Arg{Src: 0}
			f.Tasks = append(f.Tasks[:1], api.Task{Node: 1, Clock: every, Args: []api.Arg{{Src: 0}}})
			f.Tells = nil
			if !flat.Right(f) {
				t.Fatal(f)
			}
			change(&f.Tasks[0].Args[i], &f.Tasks[0].Clock)
			if flat.Right(f) {
				t.Errorf("%s, of argument %d: right", name, i)
			}
		}
	}
}

// P8.2: a task that reads nothing but itself has a clock of its own, but no wrong one.
func TestWrongClocksOfWhatReadsItself(t *testing.T) {
	for _, c := range []api.Clock{{}, {Period: -10}, {Period: api.MaxHyper + 1}, {Period: 10, Phase: -1}, {Period: 10, Phase: api.MaxHyper + 1}} {
		for _, l := range [][]api.Op{nil, {{Kind: api.EFby}}, {{Kind: 99}}} {
			f := sound()
			f.Tasks = append(f.Tasks, api.Task{Node: 1, Clock: c, Args: []api.Arg{{Src: 4, Ops: l}}})
			if flat.Right(f) {
				t.Error(c, l)
			}
		}
	}
}

// R1: programs that no text makes, and clocks that aren't the program's.
func TestEndsOfWrongPrograms(t *testing.T) {
	ends := func(p api.Program, l []api.Clock) {
		t.Helper()
		f, at, err := flat.Make(p, l)
		if err != api.OK && !reflect.DeepEqual(f, api.Flat{}) || err == api.OK && at != 0 {
			t.Error(f, at, err)
		}
		flat.Right(f)
	}
	refuses := func(p api.Program, l []api.Clock, want api.Errno) {
		t.Helper()
		ends(p, l)
		if _, _, err := flat.Make(p, l); err != want {
			t.Errorf("%v, %v: %v; should be %v", p, l, err, want)
		}
	}
	p, l := read(t, head+"flow f = n(x, 0 fby f); flow g = tail f; output o = g deadline 4;")
	for _, wrong := range [][]api.Clock{nil, {}, l[:1], {l[1], l[0]}, {l[0], {}}, append(l[:2:2], l[0])} {
		refuses(p, wrong, api.ErrArg)
	}
	refuses(api.Program{}, l, api.ErrArg)
	ends(api.Program{}, nil)
	ends(api.Program{Nodes: make([]api.Node, 1), Inputs: make([]api.Input, 1), Flows: make([]api.Flow, 1), Outputs: make([]api.Output, 1)}, l[:1])
	for _, clocks := range [][]api.Clock{nil, l} {
		q := p
		q.Flows = append(p.Flows[:1:1], api.Flow{Name: "g", E: api.Expr{Kind: api.EName, Name: "z"}})
		refuses(q, clocks, api.ErrName)
		q.Flows = append(p.Flows[:1:1], api.Flow{Name: "g", E: api.Expr{Kind: api.EName, Name: "g"}})
		refuses(q, clocks, api.ErrCycle)
	}
	round := api.Expr{Kind: api.EFby, Args: []api.Expr{{}}}
	round.Args[0] = round
	deep := api.Expr{Kind: api.EName, Name: "x"}
	for range 1000000 {
		deep = api.Expr{Kind: api.EFby, Args: []api.Expr{deep}}
	}
	for _, e := range []api.Expr{round, deep} {
		q := p
		q.Flows = []api.Flow{{Name: "g", E: e}}
		ends(q, l[:1])
		q = p
		q.Nodes = append(p.Nodes[:2:2], api.Node{Name: "k", Body: e})
		ends(q, l)
	}
}

// R1: expressions that hold more, or less, than what is read does, and go round through what they hold too much.
func TestEndsOfWrongExpressions(t *testing.T) {
	name := func(s string) api.Expr { return api.Expr{Kind: api.EName, Name: s} }
	none := api.Expr{Kind: api.ECall, Name: "none"}
	p, _ := read(t, head)
	p.Nodes = append(p.Nodes, api.Node{Name: "none", Budget: 1, Body: api.Expr{Kind: api.EConst}})
	p.Inputs = append(p.Inputs, api.Input{Name: "zero"})
	for kind := -1; kind <= 15; kind++ {
		for _, first := range []api.Expr{name("x"), name("zero"), name("f"), none, {}, {Kind: kind}} {
			for _, rest := range [][]api.Expr{nil, {name("x")}, {none}, {name("zero"), none}, {name("f")}, {{Kind: kind}}} {
				for _, called := range []string{"m", "n", "k", "none", "x"} {
					e := api.Expr{Kind: kind, Name: called, N: 1, D: 1, Args: append([]api.Expr{first}, rest...)}
					for _, outer := range []api.Expr{e, {Kind: api.ECall, Name: "n", Args: []api.Expr{name("zero"), e}}, {Kind: api.ECall, Name: "n", Args: []api.Expr{e, name("x")}}, {Kind: kind, N: 1, D: 1, Args: []api.Expr{e}}} {
						p.Flows = []api.Flow{{Name: "f", E: outer}}
						p.Outputs = []api.Output{{Name: "o", Flow: "f", Deadline: 1}}
						l, _, _ := check.Check(p)
						flat.Make(p, l)
						flat.Make(p, []api.Clock{{Period: 10}})
					}
				}
			}
		}
	}
}

// R1: a flat program of anything is right or not, and that's all.
func TestEndsOfWrongFlats(t *testing.T) {
	for _, n := range []int{math.MinInt, -1, 0, 1, 2, math.MaxInt} {
		a := api.Arg{Src: n, Ops: []api.Op{{Kind: n, N: int64(n), D: int64(n)}}}
		c := api.Clock{Period: int64(n), Phase: int64(n)}
		f := api.Flat{
			Inputs: []api.Clock{c}, Nodes: []api.Node{{Budget: int64(n)}, {Params: []string{""}, Budget: 1}},
			Tasks: []api.Task{{Node: n, Clock: c, Args: []api.Arg{a}}}, Tells: []api.Tell{{Clock: c, Arg: a, Deadline: int64(n)}},
		}
		if flat.Right(f) {
			t.Error(f)
		}
		f.Inputs = nil
		flat.Right(f)
		f.Nodes = f.Nodes[1:]
		flat.Right(f)
		f.Tells = nil
		flat.Right(f)
		flat.Source(f, n)
	}
}

// blocks tells where all lists lie that the value has, its spare room too.
func blocks(v reflect.Value, seen map[uintptr]int) {
	switch v.Kind() {
	case reflect.Struct:
		for i := range v.NumField() {
			blocks(v.Field(i), seen)
		}
	case reflect.Slice:
		if v.Cap() > 0 {
			seen[v.Pointer()]++
		}
		for i := range v.Len() {
			blocks(v.Index(i), seen)
		}
	}
}

// R5: what is handed in is left as it is, and what is answered is new memory, of which no two lists share any.
func TestAnswersAreNewMemory(t *testing.T) {
	s := "node deep(a, b) budget 1 { a ? (b * 2) + (a / (b - -1)) : 3 } " + head + "flow f = n(m(g), 0 fby f); flow g = tail h; flow h = m(x) *^ 2 /^ 2; output o = g deadline 4; output p = g deadline 5;"
	p, l := read(t, s)
	p.Flows = append(p.Flows, api.Flow{Name: "spare"})[:3]
	l = append(l, api.Clock{Period: 77})[:3]
	f, _, err := flat.Make(p, l)
	if err != api.OK {
		t.Fatal(err)
	}
	seen := map[uintptr]int{}
	blocks(reflect.ValueOf(f), seen)
	blocks(reflect.ValueOf(p), seen)
	blocks(reflect.ValueOf(l), seen)
	for at, times := range seen {
		if times > 1 {
			t.Error(at, times)
		}
	}
	flat.Right(f)
	flat.Source(f, 1)
	q, k := read(t, s)
	if !reflect.DeepEqual(p, q) || !slices.Equal(l, k) || p.Flows[:4][3].Name != "spare" || l[:4][3].Period != 77 {
		t.Error("changed", p, l)
	}
	if g, _, _ := flat.Make(q, k); !reflect.DeepEqual(f, g) {
		t.Error("changed", f)
	}
}

// P8.2: what is asked is left as it is.
func TestRightLeavesWhatItAsks(t *testing.T) {
	f := sound()
	f.Tasks[1].Args[0].Ops = append(f.Tasks[1].Args[0].Ops, api.Op{Kind: 77})[:3]
	flat.Right(f)
	flat.Source(f, 3)
	if g := sound(); !reflect.DeepEqual(f, g) || f.Tasks[1].Args[0].Ops[:4][3].Kind != 77 {
		t.Error(f)
	}
}

// P8.1: a program that isn't well is refused as layer 6 refuses it.
func TestWhatIsNotWellIsRefused(t *testing.T) {
	p, l := read(t, head+"flow f = m(x); flow g = m(y);")
	ahead := len(head + "flow f = ")
	p.Flows[0].E.Args[0].Name = "y"
	if f, at, err := flat.Make(p, l); err != api.ErrArg || at != 0 || !reflect.DeepEqual(f, api.Flat{}) {
		t.Error(f, at, err)
	}
	p.Flows[0].E.Name = "n"
	if f, at, err := flat.Make(p, l); err != api.ErrArity || at != ahead || !reflect.DeepEqual(f, api.Flat{}) {
		t.Error(f, at, err)
	}
	p.Flows[0].E.Name = strings.Repeat("m", 2)
	if f, at, err := flat.Make(p, l); err != api.ErrName || at != ahead || !reflect.DeepEqual(f, api.Flat{}) {
		t.Error(f, at, err)
	}
}
