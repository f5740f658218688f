package run_test

import (
	"math/rand"
	"testing"

	"horarium/api"
	"horarium/run"
	"horarium/sample"
	"horarium/sched"
	"horarium/stream"
	"horarium/valid"
)

// tally is how much was asked of.
type tally struct {
	plans, said, overruns, odd, ill int
}

// valuesOf is of some of the inputs some values, not always as many as are read, and at times of more inputs than there are.
func valuesOf(r *rand.Rand, f api.Flat) [][]int64 {
	l := make([][]int64, r.Intn(len(f.Inputs)+3))
	for i := range l {
		for range r.Intn(30) {
			l[i] = append(l[i], r.Int63n(2000)-1000)
		}
	}
	return l
}

// within is a time for each of the slots, none of which is above its budget.
func within(r *rand.Rand, f api.Flat, slots []api.Slot) []int64 {
	var l []int64
	for _, s := range slots {
		l = append(l, sched.Budget(f, s.Task)-r.Int63n(5))
	}
	return l
}

// meant is all that layer 10 says up to until, or, if it is earlier, up to where the slot starts, if there is one that overruns.
func meant(t *testing.T, f api.Flat, in [][]int64, until int64, slots []api.Slot, overrun int) run.Result {
	t.Helper()
	want := run.Result{}
	if overrun < len(slots) && slots[overrun].Start <= until {
		until = slots[overrun].Start
		want.Overrun, want.Slot = true, slots[overrun]
	}
	l, err := stream.Says(f, in, until)
	if err != api.OK {
		t.Fatal(f, err)
	}
	want.Said = l
	return want
}

// asMeant asks of a plan that is well, of times within budgets, and of such of which one isn't.
func asMeant(t *testing.T, r *rand.Rand, f api.Flat, p sched.Plan, many *tally) {
	t.Helper()
	until := r.Int63n(3*p.S + 6*p.H + 50)
	in := valuesOf(r, f)
	slots := sched.Expand(f, p, until+30)
	want := meant(t, f, in, until, slots, len(slots))
	resultIs(t, f, p, in, nil, until, want)
	times := within(r, f, slots)
	resultIs(t, f, p, in, times, until, want)
	many.plans++
	many.said += len(want.Said)
	if len(slots) > 0 {
		i := r.Intn(len(slots))
		times[i] = sched.Budget(f, slots[i].Task) + 1 + r.Int63n(3)
		for j := range slots[i+1:] {
			times[i+1+j] += r.Int63n(3)
		}
		want = meant(t, f, in, until, slots, i)
		resultIs(t, f, p, in, times, until, want)
		if want.Overrun && len(want.Said) > 0 {
			many.overruns++
		}
		again(t, r, f, p, in, until, slots)
	}
	if t.Failed() {
		t.Fatal(f, p)
	}
}

// again asks of few times, which come again and again.
func again(t *testing.T, r *rand.Rand, f api.Flat, p sched.Plan, in [][]int64, until int64, slots []api.Slot) {
	t.Helper()
	times := within(r, f, slots[:1+r.Intn(min(7, len(slots)))])
	overrun := 0
	for overrun < len(slots) && times[overrun%len(times)] <= sched.Budget(f, slots[overrun].Task) {
		overrun++
	}
	resultIs(t, f, p, in, times, until, meant(t, f, in, until, slots, overrun))
}

// askAll asks of the flat program's plan, if there is one, and of such as come near.
func askAll(t *testing.T, r *rand.Rand, f api.Flat, many *tally) {
	t.Helper()
	p, err := sched.Make(f)
	if err != api.OK {
		refused(t, f, sched.Plan{H: 1}, 0)
		return
	}
	asMeant(t, r, f, p, many)
	p = sample.Spread(r.Intn, f, p)
	asMeant(t, r, f, p, many)
	for range 3 {
		if len(p.Slots) == 0 {
			return
		}
		q := sample.Changed(r.Intn, f, p)
		if valid.Well(f, q) {
			asMeant(t, r, f, q, many)
			continue
		}
		many.ill++
		refused(t, f, q, r.Int63n(100))
	}
	if q := sample.Besides(r.Intn, f, p); len(q.Slots) > len(p.Slots) {
		many.odd++
		asMeant(t, r, f, q, many)
	}
}

func enough(t *testing.T, many, least tally) {
	t.Helper()
	if many.plans < least.plans || many.said < least.said || many.overruns < least.overruns || many.odd < least.odd || many.ill < least.ill {
		t.Error(many)
	}
}

// P16.1, P16.2: of programs as they are written.
func TestProgramsAtRandom(t *testing.T) {
	r := rand.New(rand.NewSource(16))
	var many tally
	for i := range 2000 {
		m := sample.Maker{Pick: r.Intn, Periods: []int64{4, 6, 8, 12}, Many: 1 + i%8, Deep: 1 + i%4, Budget: 1 + i%3, Deadline: 30}
		if f, is := sample.Made(m.Text()); is {
			askAll(t, r, f, &many)
		}
	}
	enough(t, many, tally{plans: 3000, said: 40000, overruns: 600, odd: 300, ill: 1000})
}

// P16.1, P16.2: of flat programs that none need have written.
func TestFlatsAtRandom(t *testing.T) {
	r := rand.New(rand.NewSource(161))
	m := sample.Flats{Pick: r.Intn, Clocks: []api.Clock{every(4, 0), every(4, 6), every(6, 0), every(6, 9), every(8, 3), every(12, 8)}, Tasks: 5, Tells: 3, Deadline: 20}
	var many tally
	for i := range 2000 {
		m.Budget = 1 + i%4
		askAll(t, r, m.Flat(), &many)
	}
	enough(t, many, tally{plans: 2000, said: 60000, overruns: 1000, odd: 400, ill: 1200})
}
