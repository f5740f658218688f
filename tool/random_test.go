package tool_test

import (
	"bytes"
	"errors"
	"math/rand"
	"slices"
	"strconv"
	"strings"
	"testing"

	"horarium/api"
	"horarium/check"
	"horarium/clock"
	"horarium/flat"
	"horarium/index"
	"horarium/lex"
	"horarium/order"
	"horarium/run"
	"horarium/sample"
	"horarium/sched"
	"horarium/stream"
	"horarium/syntax"
	"horarium/table"
	"horarium/tool"
	"horarium/valid"
)

// job is a task's, by its number.
type job struct {
	task int
	n    int64
}

// origin is the job from which the argument's n-th value comes, and whether it comes from one.
func origin(f api.Flat, a api.Arg, n int64) (job, bool) {
	place, _, kind := index.Back(a.Ops, n)
	task := a.Src - len(f.Inputs)
	return job{task, place}, kind == 1 && task >= 0
}

// walker goes through a plan's time tick by tick. The cells have, in place of values, the numbers of the jobs whose values they hold.
type walker struct {
	m     *tool.Made
	slots []api.Slot // that haven't started yet
	rings [][]int64
	runs  job   // what runs, if there is something
	ends  int64 // when it ends; -1 if nothing runs
	ended map[job]int64
}

func newWalker(m *tool.Made, until int64) *walker {
	w := &walker{m: m, slots: sched.Expand(m.Flat, m.Plan, until), ends: -1, ended: map[job]int64{}}
	for _, many := range m.Cells {
		w.rings = append(w.rings, slices.Repeat([]int64{-1}, many))
	}
	return w
}

// reads asks whether the job from which the value comes has ended, and its cell holds its value.
func (w *walker) reads(t *testing.T, a api.Arg, n, now int64) {
	t.Helper()
	j, is := origin(w.m.Flat, a, n)
	if !is {
		return
	}
	if end, ran := w.ended[j]; !ran || end > now {
		t.Errorf("at %d: %v hasn't ended", now, j)
	}
	ring := w.rings[j.task]
	if has := ring[j.n%int64(len(ring))]; has != j.n {
		t.Errorf("at %d: the cell of %v has %d", now, j, has)
	}
}

// put is that the job that runs ends, if it does so now.
func (w *walker) put(now int64) {
	if w.ends != now {
		return
	}
	ring := w.rings[w.runs.task]
	ring[w.runs.n%int64(len(ring))] = w.runs.n
	w.ended[w.runs] = now
	w.ends = -1
}

// tell is that tells say what they say now.
func (w *walker) tell(t *testing.T, now int64) {
	t.Helper()
	for _, o := range w.m.Flat.Tells {
		if said := now - o.Deadline - o.Clock.Phase; said >= 0 && said%o.Clock.Period == 0 {
			w.reads(t, o.Arg, said/o.Clock.Period, now)
		}
	}
}

// start is that the next slot starts, if it does so now.
func (w *walker) start(t *testing.T, now int64) {
	t.Helper()
	if len(w.slots) == 0 || w.slots[0].Start != now {
		return
	}
	s := w.slots[0]
	w.slots = w.slots[1:]
	task := w.m.Flat.Tasks[s.Task]
	if w.ends >= 0 {
		t.Errorf("%v: %v runs till %d", s, w.runs, w.ends)
	}
	w.runs, w.ends = job{s.Task, int64(s.Job)}, now+w.m.Flat.Nodes[task.Node].Budget
	release := task.Clock.Phase + task.Clock.Period*int64(s.Job)
	if _, twice := w.ended[w.runs]; twice || now < release || w.ends > release+task.Clock.Period {
		t.Errorf("%v, released at %d, ends at %d", s, release, w.ends)
	}
	for _, a := range task.Args {
		w.reads(t, a, int64(s.Job), now)
	}
}

// planHolds asks P2 and P3 of all that runs below until.
func planHolds(t *testing.T, m *tool.Made, until int64) {
	t.Helper()
	w := newWalker(m, until)
	for now := range until {
		w.put(now)
		w.tell(t, now)
		w.start(t, now)
	}
	for i, task := range m.Flat.Tasks {
		for n := int64(0); clock.Date(task.Clock, n)+task.Clock.Period < until; n++ {
			if _, ran := w.ended[job{i, n}]; !ran {
				t.Errorf("job %d of %d doesn't run", n, i)
			}
		}
	}
}

// valuesOf is of each input some values, not always as many as are read.
func valuesOf(r *rand.Rand, f api.Flat) [][]int64 {
	l := make([][]int64, len(f.Inputs))
	for i := range l {
		for range r.Intn(40) {
			l[i] = append(l[i], r.Int63n(2000)-1000)
		}
	}
	return l
}

// timesOf is a time for each of the slots, within its budget.
func timesOf(r *rand.Rand, f api.Flat, slots []api.Slot) []int64 {
	var l []int64
	for _, s := range slots {
		l = append(l, sched.Budget(f, s.Task)-r.Int63n(4))
	}
	return l
}

// runIs asks for what a run says up to until.
func runIs(t *testing.T, m *tool.Made, in [][]int64, times []int64, until int64, want []stream.Said, overrun bool, slot api.Slot) {
	t.Helper()
	got, err := run.Run(m.Flat, m.Plan, in, times, until)
	if err != api.OK || got.Overrun != overrun || got.Slot != slot || !slices.Equal(got.Said, want) {
		t.Errorf("times %v, up to %d: %v, %v; should be %v, %v, %v", times, until, got, err, want, overrun, slot)
	}
}

// runsAsMeant asks P1, and of overruns P6, up to until; and tells how much was said.
func runsAsMeant(t *testing.T, r *rand.Rand, m *tool.Made, until int64) int {
	t.Helper()
	in := valuesOf(r, m.Flat)
	want, err := stream.Says(m.Flat, in, until)
	if err != api.OK {
		t.Fatal(err)
	}
	slots := sched.Expand(m.Flat, m.Plan, until+1)
	times := timesOf(r, m.Flat, slots)
	runIs(t, m, in, times, until, want, false, api.Slot{})
	if len(slots) == 0 {
		return len(want)
	}
	i := r.Intn(len(slots))
	times[i] = sched.Budget(m.Flat, slots[i].Task) + 1 + r.Int63n(3)
	upTo := slices.IndexFunc(want, func(s stream.Said) bool { return s.Date > slots[i].Start })
	if upTo < 0 {
		upTo = len(want)
	}
	runIs(t, m, in, times, until, want[:upTo], true, slots[i])
	return len(want)
}

// tablesHold asks, of tables, P6: the plan comes again of its own; bytes that differ are refused, or those of another plan that is well.
func tablesHold(t *testing.T, r *rand.Rand, m *tool.Made) {
	t.Helper()
	if p, err := table.Decode(m.Flat, m.Table); err != api.OK || p.S != m.Plan.S || p.H != m.Plan.H || !slices.Equal(p.Slots, m.Plan.Slots) {
		t.Error(p, err)
	}
	for range 5 {
		b := slices.Clone(m.Table)
		for range 1 + r.Intn(2) {
			i := r.Intn(len(b))
			switch r.Intn(4) {
			case 0:
				b[i] = byte(r.Intn(256))
			case 1:
				b[i] += byte(1 + r.Intn(3))
			case 2:
				b = slices.Insert(b, i, byte(r.Intn(3)))
			case 3:
				b = append(b[:i], b[min(i+1, len(b)-1):]...)
			}
		}
		p, err := table.Decode(m.Flat, b)
		if err == api.OK {
			again, wrong := table.Encode(m.Flat, p)
			if wrong != api.OK || !valid.Well(m.Flat, p) || !bytes.Equal(again, b) {
				t.Errorf("%x: %v, %v", b, p, wrong)
			}
		} else if err != api.ErrForm || len(p.Slots) != 0 || p.S != 0 || p.H != 0 {
			t.Errorf("%x: %v, %v", b, p, err)
		}
	}
}

// layers is the fault of the first layer that has one, of a text that all are asked of, one behind the other.
func layers(s string) tool.Fault {
	p, at, err := syntax.Parse(s)
	if err != api.OK {
		return tool.Fault{At: at, Err: err}
	}
	clocks, at, err := check.Check(p)
	if err != api.OK {
		return tool.Fault{At: at, Err: err}
	}
	f, at, err := flat.Make(p, clocks)
	if err != api.OK {
		return tool.Fault{At: at, Err: err}
	}
	if _, err := order.Of(f); err != api.OK {
		return tool.Fault{Err: err}
	}
	_, err = sched.Make(f)
	return tool.Fault{Err: err}
}

// asked asks P4 of a text, whatever it is: there is a table, or the fault of the first layer that has one. It is nil, if there is none.
func asked(t *testing.T, s string, many map[api.Errno]int) *tool.Made {
	t.Helper()
	want := layers(s)
	many[want.Err]++
	m, err := tool.Compile(s)
	if err == nil {
		if m == nil || want.Err != api.OK || len(m.Table) < 6 || len(m.Cells) != len(m.Flat.Tasks) {
			t.Fatalf("%s\n%v; should be %v", s, m, want)
		}
		return m
	}
	var f *tool.Fault
	if m != nil || !errors.As(err, &f) || *f != want || !errors.Is(err, want.Err) {
		t.Fatalf("%s\n%v, %v; should be %v", s, m, err, want)
	}
	if f.Err < api.ErrSyntax || f.Err > api.ErrMiss || f.At < 0 || f.At > len(s) {
		t.Fatalf("%s\n%v", s, f)
	}
	return nil
}

// told asks that each of the errors was met so often, at least.
func told(t *testing.T, many map[api.Errno]int, least int, l ...api.Errno) {
	t.Helper()
	for _, err := range l {
		if many[err] < least {
			t.Error(err, many)
		}
	}
}

// P1, P2, P3, P6, P17.1: of programs as they are written.
func TestProgramsAtRandom(t *testing.T) {
	r := rand.New(rand.NewSource(17))
	many, said := map[api.Errno]int{}, 0
	for i := range 4000 {
		maker := sample.Maker{Pick: r.Intn, Periods: []int64{4, 6, 8, 12}, Many: 1 + i%8, Deep: 1 + i%4, Budget: 1 + i%3, Deadline: 30}
		s := maker.Text()
		m := asked(t, s, many)
		if m == nil {
			continue
		}
		until := 2*m.Plan.S + 5*m.Plan.H + r.Int63n(50)
		planHolds(t, m, until)
		said += runsAsMeant(t, r, m, until)
		tablesHold(t, r, m)
		if t.Failed() {
			t.Fatal(s, *m)
		}
	}
	if told(t, many, 2000, api.OK); said < 40000 {
		t.Error(said)
	}
	told(t, many, 50, api.ErrCycle, api.ErrMiss)
}

// P1: up to the last date of a run, of long periods and short ones.
func TestLongRuns(t *testing.T) {
	r := rand.New(rand.NewSource(171))
	many, said := map[api.Errno]int{}, 0
	for i := range 150 {
		maker := sample.Maker{Pick: r.Intn, Periods: [][]int64{{8, 12, 24}, {40, 100}, {250, 500, 1000}}[i%3], Many: 4, Deep: 3, Budget: 2, Deadline: 100}
		s := maker.Text()
		if m := asked(t, s, many); m != nil {
			said += runsAsMeant(t, r, m, 10000)
			planHolds(t, m, 10000)
		}
		if t.Failed() {
			t.Fatal(s)
		}
	}
	if told(t, many, 60, api.OK); said < 20000 {
		t.Error(said)
	}
}

// changed is the text with some piece of it changed: mostly for another one of its kind, at times for some other one, or taken out, or doubled.
func changed(r *rand.Rand, s string) string {
	tokens, _, err := lex.Lex(s)
	if err != api.OK || len(tokens) == 0 {
		return s
	}
	out := tokens[r.Intn(len(tokens))]
	in := tokens[r.Intn(len(tokens))].Text
	switch {
	case r.Intn(30) == 0:
		in = []string{"", " ", "$", "(", "tail", "5000000000", "0", "101", "1 fby", out.Text + " " + out.Text}[r.Intn(10)]
	case slices.Contains(lex.Words(), out.Text):
		in = out.Text
	case out.Kind == 2:
		in = []string{"1", "2", "3", "7", "90", "100"}[r.Intn(6)]
	case out.Kind == 1:
		in = strings.TrimRight(out.Text, "0123456789") + strconv.Itoa(r.Intn(4))
	case out.Text == "*^":
		in = "/^"
	case out.Text == "/^":
		in = "*^"
	case r.Intn(3) > 0:
		in = out.Text
	}
	return s[:out.At] + in + s[out.At+len(out.Text):]
}

// P4, P17.1: texts that were changed have a table, or a fault.
func TestChangedTexts(t *testing.T) {
	r := rand.New(rand.NewSource(174))
	many := map[api.Errno]int{}
	for i := range 10000 {
		maker := sample.Maker{Pick: r.Intn, Periods: []int64{4, 6, 90, 400}, Many: 1 + i%6, Deep: 1 + i%4, Budget: 1 + i%3, Deadline: 20}
		s := maker.Text()
		for range 1 + r.Intn(4) {
			s = changed(r, s)
		}
		asked(t, s, many)
	}
	told(t, many, 10, api.OK, api.ErrSyntax, api.ErrName, api.ErrArity, api.ErrClock, api.ErrCycle, api.ErrRange, api.ErrLimit, api.ErrMiss)
}

// P4: texts that need be nothing.
func TestTextsAtRandom(t *testing.T) {
	r := rand.New(rand.NewSource(1741))
	pieces := append(lex.Words(), "x", "y", "1", "20", "(", ")", "{", "}", ",", ";", "=", "+", "-", "*", "/", "<", "?", ":", "::", "*^", "/^", "~>", "==", " ", "\n", "#", "\xff", "\x00", "é")
	many := map[api.Errno]int{}
	for range 20000 {
		var s strings.Builder
		for range r.Intn(12) {
			s.WriteString(pieces[r.Intn(len(pieces))] + " "[:r.Intn(2)])
		}
		asked(t, s.String(), many)
	}
	told(t, many, 100, api.OK, api.ErrSyntax)
}

// chainOf is a chain of calls, of one node each, whose budgets come to the whole; and how many there are.
func chainOf(r *rand.Rand, whole int) (string, int) {
	var nodes, calls strings.Builder
	many := 0
	for left := whole; left > 0; many++ {
		budget := min(left, 1+r.Intn(10))
		left -= budget
		name := "n" + strconv.Itoa(many)
		nodes.WriteString("node " + name + "(a) budget " + strconv.Itoa(budget) + " { a + 1 } ")
		calls.WriteString(name + "(")
	}
	return nodes.String() + "flow f = " + calls.String() + "x" + strings.Repeat(")", many) + "; ", many
}

// P5: a chain on one clock has a plan just if its budgets come to at most the period, and the deadline.
func TestChainsAtRandom(t *testing.T) {
	r := rand.New(rand.NewSource(175))
	many := map[bool]int{}
	for range 3000 {
		whole := 1 + r.Intn(60)
		chain, length := chainOf(r, whole)
		if length >= api.MaxDepth {
			continue
		}
		period, deadline := whole+r.Intn(8)-2, whole+r.Intn(8)-2
		if period < 1 || deadline < 1 {
			continue
		}
		s := chain + "input x period " + strconv.Itoa(period) + " phase " + strconv.Itoa(r.Intn(100)) + "; output o = f deadline " + strconv.Itoa(deadline) + ";"
		fits := period >= whole && deadline >= whole
		many[fits]++
		if !fits {
			faultIs(t, s, api.ErrMiss)
			continue
		}
		m := compiled(t, s)
		planHolds(t, m, 2*m.Plan.S+3*m.Plan.H)
		runsAsMeant(t, r, m, 500)
	}
	if many[true] < 500 || many[false] < 500 {
		t.Error(many)
	}
}
