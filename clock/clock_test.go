package clock_test

import (
	"math"
	"slices"
	"testing"

	"horarium/api"
	"horarium/clock"
)

func at(period, phase int64) api.Clock {
	return api.Clock{Period: period, Phase: phase}
}

// wrongClocks are just outside of what is right, and far outside, so far that their dates would go around.
func wrongClocks() []api.Clock {
	return []api.Clock{
		{}, at(0, 5), at(-1, 0), at(10, -1), at(2001, 0), at(1, 2001), at(2001, 2001), at(0, -1),
		at(math.MinInt64, 0), at(math.MaxInt64, 0), at(1, math.MinInt64), at(1, math.MaxInt64), at(math.MaxInt64, math.MaxInt64),
	}
}

func rightClocks() []api.Clock {
	return []api.Clock{
		at(1, 0), at(1, 1), at(2, 1), at(3, 2), at(7, 0), at(10, 0), at(10, 9), at(10, 10), at(10, 25), at(12, 6),
		at(60, 120), at(100, 1900), at(100, 1901), at(97, 1999), at(1000, 1000), at(1000, 1001), at(1999, 1), at(1999, 2),
		at(2000, 0), at(2000, 1), at(2000, 2000), at(1, 2000), at(1, 1999), at(20, 2000),
	}
}

func clockOf(t *testing.T, what any, got api.Clock, err api.Errno, want api.Clock, wantErr api.Errno) {
	t.Helper()
	if got != want || err != wantErr {
		t.Errorf("%v: %v, %v; should be %v, %v", what, got, err, want, wantErr)
	}
}

// P2.1
func TestRight(t *testing.T) {
	for _, c := range rightClocks() {
		if !clock.Right(c) {
			t.Errorf("%v should be right", c)
		}
	}
	for _, c := range wrongClocks() {
		if clock.Right(c) {
			t.Errorf("%v shouldn't be right", c)
		}
	}
}

// P2.1
func TestDate(t *testing.T) {
	for _, c := range []struct {
		c       api.Clock
		n, want int64
	}{
		{at(10, 20), 0, 20},
		{at(10, 20), 1, 30},
		{at(10, 20), 3, 50},
		{at(1, 0), 0, 0},
		{at(1, 0), 1 << 40, 1 << 40},
		{at(2000, 2000), 0, 2000},
		{at(2000, 2000), 1<<40 - 1, 2000 << 40},
		{at(2000, 2000), 1 << 40, 2000 + 2000<<40},
		{at(2000, 2000), 1<<40 + 1, 0},
		{at(1, 5), 1<<40 + 1, 0},
		{at(10, 20), -1, 0},
		{at(10, 20), math.MaxInt64, 0},
		{at(10, 20), math.MinInt64, 0},
	} {
		if got := clock.Date(c.c, c.n); got != c.want {
			t.Errorf("Date(%v, %d): %d; should be %d", c.c, c.n, got, c.want)
		}
	}
}

// P2.1: a clock that isn't right has no dates.
func TestDateOfWrongClocks(t *testing.T) {
	for _, c := range wrongClocks() {
		for _, n := range []int64{0, 1, 1 << 40} {
			if got := clock.Date(c, n); got != 0 {
				t.Errorf("Date(%v, %d): %d", c, n, got)
			}
		}
	}
}

type applied struct {
	c    api.Clock
	o    api.Op
	want api.Clock
	err  api.Errno
}

func checkApplied(t *testing.T, l []applied) {
	t.Helper()
	for _, x := range l {
		got, err := clock.Apply(x.c, x.o)
		clockOf(t, []any{x.c, x.o}, got, err, x.want, x.err)
	}
}

// P2.1
func TestApplyOver(t *testing.T) {
	over := func(n int64) api.Op { return api.Op{Kind: api.EOver, N: n} }
	none := api.Clock{}
	checkApplied(t, []applied{
		{at(10, 0), over(2), at(5, 0), api.OK},
		{at(10, 20), over(1), at(10, 20), api.OK},
		{at(10, 20), over(10), at(1, 20), api.OK},
		{at(100, 2000), over(100), at(1, 2000), api.OK},
		{at(2000, 2000), over(100), at(20, 2000), api.OK},
		{at(10, 0), over(3), none, api.ErrClock},
		{at(10, 0), over(100), none, api.ErrClock},
		{at(1, 0), over(2), none, api.ErrClock},
		{at(10, 0), over(0), none, api.ErrRange},
		{at(10, 0), over(-2), none, api.ErrRange},
		{at(202, 0), over(101), none, api.ErrRange},
		{at(10, 0), over(math.MinInt64), none, api.ErrRange},
		{at(10, 0), over(math.MaxInt64), none, api.ErrRange},
	})
}

// P2.1
func TestApplyUnder(t *testing.T) {
	under := func(n int64) api.Op { return api.Op{Kind: api.EUnder, N: n} }
	none := api.Clock{}
	checkApplied(t, []applied{
		{at(10, 20), under(3), at(30, 20), api.OK},
		{at(10, 20), under(1), at(10, 20), api.OK},
		{at(20, 2000), under(100), at(2000, 2000), api.OK},
		{at(1000, 0), under(2), at(2000, 0), api.OK},
		{at(667, 0), under(3), none, api.ErrRange},
		{at(21, 0), under(100), none, api.ErrRange},
		{at(2000, 0), under(100), none, api.ErrRange},
		{at(1, 0), under(0), none, api.ErrRange},
		{at(1, 0), under(-1), none, api.ErrRange},
		{at(1, 0), under(101), none, api.ErrRange},
		{at(2000, 0), under(math.MaxInt64), none, api.ErrRange},
		{at(2, 0), under(math.MinInt64), none, api.ErrRange},
	})
}

// P2.1
func TestApplyShift(t *testing.T) {
	shift := func(n, d int64) api.Op { return api.Op{Kind: api.EShift, N: n, D: d} }
	none := api.Clock{}
	checkApplied(t, []applied{
		{at(10, 20), shift(1, 2), at(10, 25), api.OK},
		{at(10, 20), shift(0, 1), at(10, 20), api.OK},
		{at(10, 20), shift(0, 100), at(10, 20), api.OK},
		{at(10, 0), shift(7, 2), at(10, 35), api.OK},
		{at(1, 3), shift(100, 100), at(1, 4), api.OK},
		{at(3, 0), shift(50, 75), at(3, 2), api.OK},
		{at(20, 0), shift(100, 1), at(20, 2000), api.OK},
		{at(2000, 0), shift(100, 100), at(2000, 2000), api.OK},
		{at(10, 1990), shift(1, 1), at(10, 2000), api.OK},
		{at(10, 1991), shift(1, 1), none, api.ErrRange},
		{at(2000, 2000), shift(100, 1), none, api.ErrRange},
		{at(10, 20), shift(1, 3), none, api.ErrClock},
		{at(10, 20), shift(1, 100), none, api.ErrClock},
		{at(10, 20), shift(-1, 2), none, api.ErrRange},
		{at(10, 20), shift(101, 10), none, api.ErrRange},
		{at(10, 20), shift(1, 0), none, api.ErrRange},
		{at(10, 20), shift(1, -2), none, api.ErrRange},
		{at(101, 0), shift(1, 101), none, api.ErrRange},
		{at(10, 20), shift(0, 0), none, api.ErrRange},
		{at(10, 20), shift(0, 101), none, api.ErrRange},
		{at(10, 20), shift(math.MaxInt64, 1), none, api.ErrRange},
		{at(10, 20), shift(math.MinInt64, -1), none, api.ErrRange},
		{at(10, 20), shift(1, math.MinInt64), none, api.ErrRange},
	})
}

// P2.1: fby leaves the clock, whatever its number.
func TestApplyFby(t *testing.T) {
	for _, c := range rightClocks() {
		for _, n := range []int64{0, 1, -5, 1000000000, math.MinInt64, math.MaxInt64} {
			checkApplied(t, []applied{{c, api.Op{Kind: api.EFby, N: n, D: n}, c, api.OK}})
		}
	}
}

// P2.1: the numbers of a cons, and of a tail, are no factors.
func TestApplyTailAndCons(t *testing.T) {
	none := api.Clock{}
	for _, n := range []int64{0, 1, -5, 101, 1000000000, math.MinInt64, math.MaxInt64} {
		tail, cons := api.Op{Kind: api.ETail, N: n, D: n}, api.Op{Kind: api.ECons, N: n, D: n}
		checkApplied(t, []applied{
			{at(10, 20), tail, at(10, 30), api.OK},
			{at(10, 3), tail, at(10, 13), api.OK},
			{at(2000, 0), tail, at(2000, 2000), api.OK},
			{at(1, 1999), tail, at(1, 2000), api.OK},
			{at(1, 2000), tail, none, api.ErrRange},
			{at(2000, 1), tail, none, api.ErrRange},
			{at(2000, 2000), tail, none, api.ErrRange},
			{at(10, 20), cons, at(10, 10), api.OK},
			{at(10, 13), cons, at(10, 3), api.OK},
			{at(10, 10), cons, at(10, 0), api.OK},
			{at(2000, 2000), cons, at(2000, 0), api.OK},
			{at(10, 9), cons, none, api.ErrClock},
			{at(1, 0), cons, none, api.ErrClock},
			{at(2000, 1999), cons, none, api.ErrClock},
		})
	}
}

// P2.1: what isn't a factor of the operator's isn't asked.
func TestApplyLeavesOtherNumbers(t *testing.T) {
	for _, d := range []int64{-1, 0, 2, 101, math.MinInt64, math.MaxInt64} {
		checkApplied(t, []applied{
			{at(10, 20), api.Op{Kind: api.EOver, N: 5, D: d}, at(2, 20), api.OK},
			{at(10, 20), api.Op{Kind: api.EUnder, N: 5, D: d}, at(50, 20), api.OK},
		})
	}
}

// P2.1: the error that is named first, where several apply.
func TestApplyNamesTheFirstError(t *testing.T) {
	for _, kind := range []int{math.MinInt, -1, 0, api.EName, api.ECall, 9, 10, api.EParam, api.EConst, api.EOp, math.MaxInt} {
		checkApplied(t, []applied{
			{at(10, 20), api.Op{Kind: kind, N: 1, D: 1}, api.Clock{}, api.ErrArg},
			{at(10, 20), api.Op{Kind: kind, N: -1, D: -1}, api.Clock{}, api.ErrArg},
			{at(2001, 20), api.Op{Kind: kind, N: 1, D: 1}, api.Clock{}, api.ErrArg},
		})
	}
	for _, c := range wrongClocks() {
		for kind := api.EOver; kind <= api.ECons; kind++ {
			checkApplied(t, []applied{
				{c, api.Op{Kind: kind, N: 1, D: 1}, api.Clock{}, api.ErrArg},
				{c, api.Op{Kind: kind, N: -1, D: -1}, api.Clock{}, api.ErrArg},
			})
		}
	}
	checkApplied(t, []applied{
		// The factor isn't one, and the period isn't divisible by it.
		{at(10, 0), api.Op{Kind: api.EOver, N: 103}, api.Clock{}, api.ErrRange},
		{at(10, 0), api.Op{Kind: api.EShift, N: 1, D: 103}, api.Clock{}, api.ErrRange},
		{at(10, 0), api.Op{Kind: api.EShift, N: -1, D: 3}, api.Clock{}, api.ErrRange},
		// The period isn't divisible, and the phase would come out too great.
		{at(10, 2000), api.Op{Kind: api.EShift, N: 100, D: 3}, api.Clock{}, api.ErrClock},
		{at(2000, 2000), api.Op{Kind: api.EShift, N: 1, D: 3}, api.Clock{}, api.ErrClock},
	})
}

// expected is what Apply answers for a right clock and an operator whose factors fit, told by the dates at which values should come, not by periods: d0 is the first, d1 the second, in parts of D.
func expected(c api.Clock, o api.Op) (api.Clock, api.Errno) {
	parts := int64(1)
	d0, d1 := c.Phase, c.Phase+c.Period
	switch o.Kind {
	case api.EOver:
		parts = o.N
		d0, d1 = c.Phase*parts, c.Phase*parts+c.Period
	case api.EUnder:
		d1 = c.Phase + o.N*c.Period
	case api.EShift:
		parts = o.D
		d0, d1 = d0*parts+c.Period*o.N, d1*parts+c.Period*o.N
	case api.ETail:
		d0, d1 = d1, d1+c.Period
	case api.ECons:
		d0, d1 = d0-c.Period, d0
	}
	if d0 < 0 || d0%parts != 0 || d1%parts != 0 {
		return api.Clock{}, api.ErrClock
	}
	d0, d1 = d0/parts, d1/parts
	if d0 > 2000 || d1-d0 > 2000 {
		return api.Clock{}, api.ErrRange
	}
	return at(d1-d0, d0), api.OK
}

// P2.1, and of P2.3 that what comes out is right.
func TestApplyByDates(t *testing.T) {
	for _, c := range rightClocks() {
		for kind := api.EOver; kind <= api.ECons; kind++ {
			for n := int64(0); n <= 100; n++ {
				for d := int64(1); d <= 100; d++ {
					o := api.Op{Kind: kind, N: n, D: d}
					if n == 0 && (kind == api.EOver || kind == api.EUnder) {
						continue
					}
					want, wantErr := expected(c, o)
					got, err := clock.Apply(c, o)
					clockOf(t, []any{c, o}, got, err, want, wantErr)
					if err == api.OK && !clock.Right(got) {
						t.Errorf("%v, %v: %v isn't right", c, o, got)
					}
				}
			}
		}
	}
}

// P2.2
func TestAll(t *testing.T) {
	over, under, shift := api.Op{Kind: api.EOver, N: 2}, api.Op{Kind: api.EUnder, N: 3}, api.Op{Kind: api.EShift, N: 1, D: 3}
	fby, tail, cons := api.Op{Kind: api.EFby, N: 7}, api.Op{Kind: api.ETail}, api.Op{Kind: api.ECons, N: 7}
	none, noFactor, no := api.Op{Kind: api.ECall}, api.Op{Kind: api.EOver, N: 101}, api.Clock{}
	for _, x := range []struct {
		c    api.Clock
		l    []api.Op
		want api.Clock
		err  api.Errno
	}{
		{at(10, 20), nil, at(10, 20), api.OK},
		{at(10, 20), []api.Op{}, at(10, 20), api.OK},
		{at(10, 20), []api.Op{tail}, at(10, 30), api.OK},
		{at(10, 20), []api.Op{over, tail}, at(5, 25), api.OK},
		{at(10, 20), []api.Op{tail, over}, at(5, 30), api.OK},
		{at(10, 20), []api.Op{under, shift, fby, cons}, at(30, 0), api.OK},
		{at(10, 20), []api.Op{under, shift, fby, cons, none}, no, api.ErrArg},
		{at(10, 20), []api.Op{under, shift, fby}, at(30, 30), api.OK},
		{at(10, 20), []api.Op{under, shift, fby, cons, cons}, no, api.ErrClock},
		{at(10, 20), []api.Op{under, shift, over, cons}, at(15, 15), api.OK},
		{at(10, 20), []api.Op{shift, under}, no, api.ErrClock},
		{at(10, 20), []api.Op{cons, cons, cons}, no, api.ErrClock},
		{at(10, 20), []api.Op{cons, cons, tail, tail}, at(10, 20), api.OK},
		{at(10, 20), []api.Op{none}, no, api.ErrArg},
		{at(10, 20), []api.Op{tail, none, noFactor}, no, api.ErrArg},
		{at(10, 20), []api.Op{tail, noFactor, none}, no, api.ErrRange},
		{at(10, 1990), []api.Op{tail, tail, none}, no, api.ErrRange},
		{at(10, 20), []api.Op{shift, none, noFactor}, no, api.ErrClock},
		{at(2001, 0), nil, no, api.ErrArg},
		{at(10, -10), []api.Op{tail}, no, api.ErrArg},
		{at(2001, 0), []api.Op{noFactor}, no, api.ErrArg},
	} {
		got, err := clock.All(x.c, x.l)
		clockOf(t, []any{x.c, x.l}, got, err, x.want, x.err)
	}
	for _, c := range wrongClocks() {
		got, err := clock.All(c, nil)
		clockOf(t, c, got, err, api.Clock{}, api.ErrArg)
	}
}

// P2.2: each operator is done where it stands, so often as it stands there.
func TestAllGoesThroughAll(t *testing.T) {
	tails := slices.Repeat([]api.Op{{Kind: api.ETail}}, 2001)
	for n := range 2002 {
		got, err := clock.All(at(1, 0), tails[:n])
		if n <= 2000 {
			clockOf(t, n, got, err, at(1, int64(n)), api.OK)
		} else {
			clockOf(t, n, got, err, api.Clock{}, api.ErrRange)
		}
	}
}

// P2.2
func TestHyper(t *testing.T) {
	var all []api.Clock
	for period := int64(1); period <= 2000; period++ {
		all = append(all, at(period, 0))
	}
	for _, x := range []struct {
		l    []api.Clock
		want int64
		err  api.Errno
	}{
		{nil, 1, api.OK},
		{[]api.Clock{}, 1, api.OK},
		{[]api.Clock{at(1, 2000)}, 1, api.OK},
		{[]api.Clock{at(2000, 2000)}, 2000, api.OK},
		{[]api.Clock{at(4, 0), at(6, 3)}, 12, api.OK},
		{[]api.Clock{at(6, 3), at(4, 0)}, 12, api.OK},
		{[]api.Clock{at(7, 5), at(7, 6), at(7, 0)}, 7, api.OK},
		{[]api.Clock{at(16, 0), at(125, 0)}, 2000, api.OK},
		{[]api.Clock{at(1000, 0), at(2000, 0), at(1, 0)}, 2000, api.OK},
		{[]api.Clock{at(3, 0), at(667, 0)}, 0, api.ErrLimit},
		{[]api.Clock{at(1999, 0), at(2, 0)}, 0, api.ErrLimit},
		{[]api.Clock{at(1999, 0), at(2000, 0)}, 0, api.ErrLimit},
		{all, 0, api.ErrLimit},
		{slices.Concat(all, []api.Clock{at(0, 0)}), 0, api.ErrArg},
		{[]api.Clock{at(1999, 0), at(2000, 0), at(1, -1)}, 0, api.ErrArg},
		{[]api.Clock{at(4, 2001), at(6, 0)}, 0, api.ErrArg},
		{[]api.Clock{at(4, 0), at(2001, 0)}, 0, api.ErrArg},
	} {
		if got, err := clock.Hyper(x.l...); got != x.want || err != x.err {
			t.Errorf("Hyper of %d clocks %v: %d, %v; should be %d, %v", len(x.l), x.l[:min(len(x.l), 4)], got, err, x.want, x.err)
		}
	}
	for _, c := range wrongClocks() {
		if got, err := clock.Hyper(c); got != 0 || err != api.ErrArg {
			t.Errorf("Hyper(%v): %d, %v", c, got, err)
		}
	}
}

// P2.2: the least number is looked for, one by one.
func TestHyperOneByOne(t *testing.T) {
	periods := []int64{1, 2, 3, 8, 15, 25, 44, 45, 46, 47, 999, 1000, 1001, 2000}
	for _, a := range periods {
		for _, b := range periods {
			want, wantErr := int64(1), api.OK
			for want <= 2000 && (want%a != 0 || want%b != 0) {
				want++
			}
			if want > 2000 {
				want, wantErr = 0, api.ErrLimit
			}
			if got, err := clock.Hyper(at(a, 1), at(b, 2)); got != want || err != wantErr {
				t.Errorf("Hyper of periods %d, %d: %d, %v; should be %d, %v", a, b, got, err, want, wantErr)
			}
		}
	}
}

// P2.2: of any clocks, whether they are right or not.
func TestLast(t *testing.T) {
	for _, x := range []struct {
		l    []api.Clock
		want int64
	}{
		{nil, 0},
		{[]api.Clock{}, 0},
		{[]api.Clock{at(2000, 0)}, 0},
		{[]api.Clock{at(10, 20), at(1, 0)}, 20},
		{[]api.Clock{at(10, 20), at(1, 30), at(2000, 25)}, 30},
		{[]api.Clock{at(1, 2000), at(2, 1999)}, 2000},
		{[]api.Clock{at(1, -5)}, 0},
		{[]api.Clock{at(1, -5), at(1, math.MinInt64)}, 0},
		{[]api.Clock{at(0, 3), at(1, 2)}, 3},
		{[]api.Clock{at(1, 2001), at(1, math.MaxInt64), at(1, 2)}, math.MaxInt64},
	} {
		if got := clock.Last(x.l...); got != x.want {
			t.Errorf("Last(%v): %d; should be %d", x.l, got, x.want)
		}
	}
}

// P2.1, P2.2: what is handed in is left as it is, its spare room too (R5).
func TestListsAreLeft(t *testing.T) {
	clocks := []api.Clock{at(4, 1), at(6, 3), at(10, 2), at(99, 99)}
	kept := slices.Clone(clocks)
	clock.Hyper(clocks[:3]...)
	clock.Last(clocks[:3]...)
	if !slices.Equal(clocks, kept) {
		t.Error(clocks)
	}
	ops := []api.Op{{Kind: api.ETail, N: 5}, {Kind: api.EOver, N: 2}, {Kind: api.ECons, N: 9}}
	keptOps := slices.Clone(ops)
	clock.All(at(10, 20), ops[:2])
	if !slices.Equal(ops, keptOps) {
		t.Error(ops)
	}
}

// P2.3: as often, and then each of as many, is the same clock.
func TestOverAndUnderCancel(t *testing.T) {
	for _, c := range rightClocks() {
		for n := int64(1); n <= 100; n++ {
			over, under := api.Op{Kind: api.EOver, N: n}, api.Op{Kind: api.EUnder, N: n}
			got, err := clock.All(c, []api.Op{over, under})
			if c.Period%n == 0 {
				clockOf(t, []any{c, n}, got, err, c, api.OK)
			} else {
				clockOf(t, []any{c, n}, got, err, api.Clock{}, api.ErrClock)
			}
		}
	}
}

// P2.3: a tail behind a cons is the same clock.
func TestTailBehindConsCancels(t *testing.T) {
	for _, c := range rightClocks() {
		got, err := clock.All(c, []api.Op{{Kind: api.ECons, N: 3}, {Kind: api.ETail}})
		if c.Phase >= c.Period {
			clockOf(t, c, got, err, c, api.OK)
		} else {
			clockOf(t, c, got, err, api.Clock{}, api.ErrClock)
		}
	}
}
