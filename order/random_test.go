package order_test

import (
	"math/rand"
	"slices"
	"testing"

	"horarium/api"
	"horarium/check"
	"horarium/flat"
	"horarium/order"
	"horarium/sample"
	"horarium/syntax"
)

// isLater is what layer 7 says of operators, read here by itself.
func isLater(l []api.Op) bool {
	for _, o := range l {
		if o.Kind == api.EFby || o.Kind == api.EShift && o.N != 0 {
			return true
		}
	}
	return false
}

// hangsOn is whether the task a hangs on the task b.
func hangsOn(f api.Flat, a, b int) bool {
	for _, arg := range f.Tasks[a].Args {
		if arg.Src == len(f.Inputs)+b && !isLater(arg.Ops) {
			return true
		}
	}
	return false
}

// meantHangs asks of each task by itself, from the least on, whether the t-th hangs on it.
func meantHangs(f api.Flat, t int) []int {
	var l []int
	for i := range f.Tasks {
		if hangsOn(f, t, i) {
			l = append(l, i)
		}
	}
	return l
}

// canBeNext is whether the task isn't in the order yet, and all on which it hangs are.
func canBeNext(f api.Flat, l []int, t int) bool {
	return !slices.Contains(l, t) && !slices.ContainsFunc(meantHangs(f, t), func(i int) bool { return !slices.Contains(l, i) })
}

// meant is the order as the chapter says it: each time all tasks are asked, from the least on.
func meant(f api.Flat) ([]int, api.Errno) {
	var l []int
	for range f.Tasks {
		next := 0
		for next < len(f.Tasks) && !canBeNext(f, l, next) {
			next++
		}
		if next == len(f.Tasks) {
			return nil, api.ErrCycle
		}
		l = append(l, next)
	}
	return l, api.OK
}

// reaches is the tasks that are reached from the t-th by what it hangs on, and that hangs on.
func reaches(f api.Flat, t int) []int {
	var l []int
	open := []int{t}
	for len(open) > 0 {
		last := open[len(open)-1]
		open = open[:len(open)-1]
		for _, i := range order.Hangs(f, last) {
			if !slices.Contains(l, i) {
				l = append(l, i)
				open = append(open, i)
			}
		}
	}
	return l
}

// circle is whether a task reaches itself.
func circle(f api.Flat) bool {
	for t := range f.Tasks {
		if slices.Contains(reaches(f, t), t) {
			return true
		}
	}
	return false
}

// isOrder is whether all tasks are in the list, each once, behind all on which they hang, and their places are told.
func isOrder(f api.Flat, l []int) bool {
	places := order.Places(l)
	if len(l) != len(f.Tasks) || len(places) != len(l) {
		return false
	}
	for t, place := range places {
		if l[place] != t {
			return false
		}
		for _, i := range order.Hangs(f, t) {
			if places[i] >= place {
				return false
			}
		}
	}
	return true
}

// asMeant asks all of a flat program; the answer is its error.
func asMeant(t *testing.T, f api.Flat) api.Errno {
	t.Helper()
	for i := range f.Tasks {
		if got, want := order.Hangs(f, i), meantHangs(f, i); !slices.Equal(got, want) {
			t.Fatalf("%v\nthe task %d hangs on %v; should on %v", f, i, got, want)
		}
	}
	l, err := order.Of(f)
	if want, wantErr := meant(f); !slices.Equal(l, want) || err != wantErr {
		t.Fatalf("%v\n%v, %v; should be %v, %v", f, l, err, want, wantErr)
	}
	if err == api.OK && !isOrder(f, l) {
		t.Fatalf("%v\n%v is no order", f, l)
	}
	if (err == api.ErrCycle) != circle(f) {
		t.Fatalf("%v\n%v, but there is a circle: %v", f, err, circle(f))
	}
	return err
}

// someFlat is a flat program that isn't right, in which tasks mostly read those of lesser ranks at once.
func someFlat(r *rand.Rand) api.Flat {
	f := api.Flat{Inputs: make([]api.Clock, r.Intn(4)), Tasks: make([]api.Task, r.Intn(12))}
	if r.Intn(20) == 0 {
		f.Tasks = make([]api.Task, 60)
	}
	ranks := r.Perm(len(f.Tasks))
	rare := 1 + r.Intn(40)
	for t := range f.Tasks {
		for range r.Intn(4) {
			a := api.Arg{Src: r.Intn(len(f.Inputs) + len(f.Tasks)), Ops: someOps(r)}
			source := a.Src - len(f.Inputs)
			if source >= 0 && ranks[source] >= ranks[t] && r.Intn(rare) > 0 {
				a.Ops = append(a.Ops, fby(1))
			}
			f.Tasks[t].Args = append(f.Tasks[t].Args, a)
		}
	}
	return f
}

func someOps(r *rand.Rand) []api.Op {
	kinds := []api.Op{over(2), under(2), tail(), cons(1), shift(0, 2), shift(1, 2), fby(4)}
	var l []api.Op
	for range r.Intn(3) {
		l = append(l, kinds[r.Intn(len(kinds))])
	}
	return l
}

// P9.1, P9.2: whatever hangs on whatever.
func TestFlatsAtRandom(t *testing.T) {
	r := rand.New(rand.NewSource(9))
	many := map[api.Errno]int{}
	for range 20000 {
		many[asMeant(t, someFlat(r))]++
	}
	if many[api.OK] < 5000 || many[api.ErrCycle] < 2000 {
		t.Error(many)
	}
}

// P9.1, P9.2: of programs as they are written.
func TestProgramsAtRandom(t *testing.T) {
	r := rand.New(rand.NewSource(99))
	many := map[api.Errno]int{}
	for i := range 8000 {
		m := sample.Maker{Pick: r.Intn, Periods: []int64{4, 6, 10}, Many: 1 + i%10, Deep: 1 + i%4, Budget: 5, Deadline: 9}
		p, _, err := syntax.Parse(m.Text())
		if err != api.OK {
			continue
		}
		clocks, _, err := check.Check(p)
		if err != api.OK {
			continue
		}
		if f, _, err := flat.Make(p, clocks); err == api.OK {
			many[asMeant(t, f)]++
		}
	}
	if many[api.OK] < 3000 || many[api.ErrCycle] < 100 {
		t.Error(many)
	}
}
