package stream_test

import (
	"math/rand"
	"slices"
	"testing"

	"horarium/api"
	"horarium/check"
	"horarium/clock"
	"horarium/flat"
	"horarium/sample"
	"horarium/stream"
	"horarium/syntax"
)

// dated is a value, and when it comes.
type dated struct {
	date, value int64
}

// behind is what stands behind the operator, of what stands ahead of it, whose period is told.
func behind(o api.Op, period int64, l []dated) []dated {
	var made []dated
	switch o.Kind {
	case api.EOver:
		for _, v := range l {
			for i := range o.N {
				made = append(made, dated{v.date + i*(period/o.N), v.value})
			}
		}
	case api.EUnder:
		for i := 0; i < len(l); i += int(o.N) {
			made = append(made, l[i])
		}
	case api.EShift:
		for _, v := range l {
			made = append(made, dated{v.date + period*o.N/o.D, v.value})
		}
	case api.ETail:
		made = l[min(1, len(l)):]
	}
	return made
}

// begun is what stands behind a fby or a cons: its number at the first date, and what is ahead of it, later by a period, or as it was.
func begun(o api.Op, c api.Clock, l []dated) []dated {
	made, later := []dated{{c.Phase, o.N}}, c.Period
	if o.Kind == api.ECons {
		made[0].date -= c.Period
		later = 0
	}
	for _, v := range l {
		made = append(made, dated{v.date + later, v.value})
	}
	return made
}

// model hands values with their dates through the operators from the inside out, as far as they are known, again and again, till that brings no more.
type model struct {
	f       api.Flat
	until   int64
	sources [][]dated
}

// cut leaves out what comes at until, and behind it.
func (m *model) cut(l []dated) []dated {
	for i, v := range l {
		if v.date >= m.until {
			return l[:i]
		}
	}
	return l
}

func (m *model) argument(a api.Arg) []dated {
	l := m.sources[a.Src]
	c, _ := flat.Source(m.f, a.Src)
	for _, o := range a.Ops {
		if o.Kind == api.EFby || o.Kind == api.ECons {
			l = begun(o, c, l)
		} else {
			l = behind(o, c.Period, l)
		}
		l = m.cut(l)
		c, _ = clock.Apply(c, o)
	}
	return l
}

// task is the task's values, as far as all its arguments have some; false, if these don't come at one time.
func (m *model) task(t api.Task) ([]dated, bool) {
	lists := make([][]dated, len(t.Args))
	for i, a := range t.Args {
		lists[i] = m.argument(a)
	}
	var made []dated
	for n := range lists[0] {
		args := make([]int64, len(lists))
		for i, l := range lists {
			if n >= len(l) {
				return made, true
			}
			if l[n].date != lists[0][n].date {
				return nil, false
			}
			args[i] = l[n].value
		}
		made = append(made, dated{lists[0][n].date, reckoned(m.f.Nodes[t.Node].Body, m.f.Nodes[t.Node].Params, args)})
	}
	return made, true
}

// reckoned is the value of a body of the random programs' nodes.
func reckoned(e api.Expr, params []string, args []int64) int64 {
	value := func(i int) int64 { return reckoned(e.Args[i], params, args) }
	switch {
	case e.Kind == api.EParam:
		return args[slices.Index(params, e.Name)]
	case e.Kind == api.EConst:
		return e.N
	case e.Name == "+":
		return value(0) + value(1)
	case e.Name == "-":
		return value(0) - value(1)
	case e.Name == "*":
		return value(0) * value(1)
	case value(0) != 0:
		return value(1)
	}
	return value(2)
}

// meantBy is what a flat program means, below until and up to it; false, if the model finds dates that don't fit.
func meantBy(f api.Flat, in [][]int64, until int64) (*model, bool) {
	m := &model{f: f, until: until, sources: make([][]dated, len(f.Inputs)+len(f.Tasks))}
	for i, c := range f.Inputs {
		for date := c.Phase; date < until; date += c.Period {
			v := dated{date: date}
			if n := len(m.sources[i]); i < len(in) && n < len(in[i]) {
				v.value = in[i][n]
			}
			m.sources[i] = append(m.sources[i], v)
		}
	}
	for more := true; more; {
		more = false
		for i, t := range f.Tasks {
			l, fits := m.task(t)
			if !fits {
				return nil, false
			}
			more = more || len(l) > len(m.sources[len(f.Inputs)+i])
			m.sources[len(f.Inputs)+i] = l
		}
	}
	return m, true
}

func (m *model) values() [][]int64 {
	var made [][]int64
	for _, l := range m.sources[len(m.f.Inputs):] {
		var values []int64
		for _, v := range l {
			values = append(values, v.value)
		}
		made = append(made, values)
	}
	return made
}

// says goes through all dates, and at each asks each tell for the value that it says then.
func (m *model) says() []stream.Said {
	var made []stream.Said
	lists := make([][]dated, len(m.f.Tells))
	for i, t := range m.f.Tells {
		lists[i] = m.argument(t.Arg)
	}
	for date := range m.until + 1 {
		for i, t := range m.f.Tells {
			n := slices.IndexFunc(lists[i], func(v dated) bool { return v.date+t.Deadline == date })
			if n >= 0 {
				made = append(made, stream.Said{Tell: i, Job: int64(n), Date: date, Value: lists[i][n].value})
			}
		}
	}
	return made
}

// asMeant asks all of a flat program that has an order.
func asMeant(t *testing.T, f api.Flat, in [][]int64, until int64) {
	t.Helper()
	m, fits := meantBy(f, in, until)
	if !fits {
		t.Fatalf("%v\nhas dates that don't fit", f)
	}
	values, err := stream.Values(f, in, until)
	if err != api.OK || !sameLists(values, m.values()) {
		t.Fatalf("%v\nof %v, up to %d: %v, %v; should be %v", f, in, until, values, err, m.values())
	}
	says, err := stream.Says(f, in, until)
	if err != api.OK || !slices.Equal(says, m.says()) {
		t.Fatalf("%v\nof %v, up to %d: %v, %v; should be %v", f, in, until, says, err, m.says())
	}
	for i, task := range f.Tasks {
		if n := stream.Jobs(task.Clock, until); n != int64(len(values[i])) {
			t.Fatalf("%v, up to %d: %d jobs, %d values", task, until, n, len(values[i]))
		}
	}
}

// asFollows asks whether what is said up to some date hangs on no input's value of a later date, and on until but in how much there is.
func asFollows(t *testing.T, r *rand.Rand, f api.Flat, in [][]int64, until int64) {
	t.Helper()
	date := r.Int63n(until + 1)
	says, _ := stream.Says(f, in, until)
	values, _ := stream.Values(f, in, until)
	said := slices.DeleteFunc(slices.Clone(says), func(s stream.Said) bool { return s.Date > date })
	if first, err := stream.Says(f, in, date); err != api.OK || !slices.Equal(first, said) {
		t.Fatalf("%v\nof %v, up to %d: %v, %v; of all up to %d: %v", f, in, date, first, err, until, said)
	}
	first, err := stream.Values(f, in, date)
	for i := range f.Tasks {
		if n := stream.Jobs(f.Tasks[i].Clock, date); err != api.OK || !slices.Equal(first[i], values[i][:n]) {
			t.Fatalf("%v\nof %v, up to %d: %v, %v; of all up to %d: %v", f, in, date, first, err, until, values)
		}
	}
	other := otherBehind(r, f, in, date)
	says, err = stream.Says(f, other, until)
	says = slices.DeleteFunc(says, func(s stream.Said) bool { return s.Date > date })
	if err != api.OK || !slices.Equal(says, said) {
		t.Fatalf("%v\nof %v, up to %d: %v, %v; of %v: %v", f, other, date, says, err, in, said)
	}
	values, err = stream.Values(f, other, date+1)
	same, _ := stream.Values(f, in, date+1)
	if err != api.OK || !sameLists(values, same) {
		t.Fatalf("%v\nof %v, up to %d: %v, %v; of %v: %v", f, other, date, values, err, in, same)
	}
}

// otherBehind is the inputs' values, with others at dates later than that.
func otherBehind(r *rand.Rand, f api.Flat, in [][]int64, date int64) [][]int64 {
	other := someInputs(r, f)
	for len(other) < len(f.Inputs) {
		other = append(other, nil)
	}
	for i, c := range f.Inputs {
		kept := make([]int64, stream.Jobs(c, date+1))
		if i < len(in) {
			copy(kept, in[i])
		}
		for range r.Intn(10) {
			kept = append(kept, r.Int63n(1000))
		}
		other[i] = kept
	}
	return other
}

// someInputs are lists of values, of which some are too short, or aren't there, or are of no input.
func someInputs(r *rand.Rand, f api.Flat) [][]int64 {
	in := make([][]int64, max(0, len(f.Inputs)+1-r.Intn(3)))
	for i := range in {
		for range r.Intn(40) {
			in[i] = append(in[i], r.Int63n(9)-4)
		}
	}
	return in
}

// askAll asks what a flat program means, if it has an order.
func askAll(t *testing.T, r *rand.Rand, f api.Flat) api.Errno {
	t.Helper()
	in, until := someInputs(r, f), r.Int63n(150)
	if _, err := stream.Values(f, in, until); err != api.OK {
		if _, same := stream.Says(f, in, until); same != err {
			t.Fatalf("%v\n%v, %v", f, err, same)
		}
		return err
	}
	asMeant(t, f, in, until)
	asFollows(t, r, f, in, until)
	return api.OK
}

// P10.1, P10.2: of programs as they are written.
func TestProgramsAtRandom(t *testing.T) {
	r := rand.New(rand.NewSource(10))
	many := map[api.Errno]int{}
	for i := range 6000 {
		m := sample.Maker{Pick: r.Intn, Periods: []int64{2, 4, 6, 10}, Many: 1 + i%8, Deep: 1 + i%4, Budget: 5, Deadline: 40}
		p, _, err := syntax.Parse(m.Text())
		if err != api.OK {
			continue
		}
		clocks, _, err := check.Check(p)
		if err != api.OK {
			continue
		}
		if f, _, err := flat.Make(p, clocks); err == api.OK {
			many[askAll(t, r, f)]++
		}
	}
	if many[api.OK] < 3000 || many[api.ErrCycle] < 50 || many[api.ErrArg] > 0 {
		t.Error(many)
	}
}

// P10.1, P10.2: of flat programs that none need have written.
func TestFlatsAtRandom(t *testing.T) {
	r := rand.New(rand.NewSource(101))
	clocks := []api.Clock{every(2, 0), every(2, 4), every(4, 0), every(4, 6), every(6, 0), every(6, 8), every(12, 3)}
	m := sample.Flats{Pick: r.Intn, Clocks: clocks, Tasks: 5, Tells: 3, Budget: 5, Deadline: 30}
	many := map[api.Errno]int{}
	for range 4000 {
		many[askAll(t, r, m.Flat())]++
	}
	if many[api.OK] < 2000 || many[api.ErrCycle] < 200 || many[api.ErrArg] > 0 {
		t.Error(many)
	}
}
