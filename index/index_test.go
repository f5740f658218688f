package index_test

import (
	"math"
	"math/big"
	"math/rand"
	"slices"
	"testing"

	"horarium/api"
	"horarium/clock"
	"horarium/index"
)

// most is the last place that can be told.
const most = int64(1) << 40

// answer is what Back answers.
type answer struct {
	place, number int64
	kind          int
}

func none() answer             { return answer{} }
func placed(n int64) answer    { return answer{place: n, kind: 1} }
func numbered(n int64) answer  { return answer{number: n, kind: 2} }
func over(n int64) api.Op      { return api.Op{Kind: api.EOver, N: n} }
func under(n int64) api.Op     { return api.Op{Kind: api.EUnder, N: n} }
func shift(n, d int64) api.Op  { return api.Op{Kind: api.EShift, N: n, D: d} }
func fby(n int64) api.Op       { return api.Op{Kind: api.EFby, N: n} }
func cons(n int64) api.Op      { return api.Op{Kind: api.ECons, N: n} }
func tail() api.Op             { return api.Op{Kind: api.ETail} }
func ops(l ...api.Op) []api.Op { return l }

func back(l []api.Op, n int64) answer {
	place, number, kind := index.Back(l, n)
	return answer{place, number, kind}
}

func backOf(t *testing.T, l []api.Op, n int64, want answer) {
	t.Helper()
	if got := back(l, n); got != want {
		t.Errorf("Back(%v, %d): %v; should be %v", l[:min(len(l), 20)], n, got, want)
	}
}

type asked struct {
	l    []api.Op
	n    int64
	want answer
}

func checkAsked(t *testing.T, l []asked) {
	t.Helper()
	for _, x := range l {
		backOf(t, x.l, x.n, x.want)
	}
}

// wrongKinds are just outside of the operators' kinds, and far outside.
func wrongKinds() []int {
	return []int{math.MinInt, -api.EOver, -1, 0, api.EName, api.ECall, api.ECons + 1, 10, api.EParam, api.EConst, api.EOp, math.MaxInt}
}

// wrongOps are operators that are none, or whose factor is none.
func wrongOps() []api.Op {
	l := ops(over(0), over(-1), over(math.MinInt64), under(0), under(-1), under(math.MinInt64), api.Op{})
	for _, kind := range wrongKinds() {
		l = append(l, api.Op{Kind: kind, N: 1, D: 1})
	}
	return l
}

// P7.1: no operators, the place is the number itself.
func TestBackThroughNothing(t *testing.T) {
	for _, n := range []int64{0, 1, 2, 1000, most - 1, most} {
		backOf(t, nil, n, placed(n))
		backOf(t, ops(), n, placed(n))
	}
}

// P7.1
func TestBackThroughOne(t *testing.T) {
	checkAsked(t, []asked{
		{ops(over(2)), 5, placed(2)},
		{ops(over(2)), 4, placed(2)},
		{ops(over(2)), 1, placed(0)},
		{ops(over(3)), 0, placed(0)},
		{ops(over(1)), 7, placed(7)},
		{ops(over(100)), 99, placed(0)},
		{ops(over(100)), 100, placed(1)},
		{ops(under(2)), 5, placed(10)},
		{ops(under(2)), 0, placed(0)},
		{ops(under(1)), 7, placed(7)},
		{ops(under(100)), 3, placed(300)},
		{ops(shift(1, 2)), 5, placed(5)},
		{ops(shift(0, 1)), 5, placed(5)},
		{ops(shift(100, 1)), 0, placed(0)},
		{ops(fby(3)), 0, numbered(3)},
		{ops(fby(3)), 1, placed(0)},
		{ops(fby(3)), 8, placed(7)},
		{ops(cons(4)), 0, numbered(4)},
		{ops(cons(4)), 1, placed(0)},
		{ops(cons(4)), 8, placed(7)},
		{ops(tail()), 0, placed(1)},
		{ops(tail()), 5, placed(6)},
	})
}

// P7.1: the last operator stands outside, and tells first.
func TestBackThroughSeveral(t *testing.T) {
	checkAsked(t, []asked{
		{ops(over(2), tail()), 4, placed(2)},
		{ops(tail(), over(2)), 4, placed(3)},
		{ops(under(2), tail()), 4, placed(10)},
		{ops(tail(), under(2)), 4, placed(9)},
		{ops(over(3), under(2)), 4, placed(2)},
		{ops(under(2), over(3)), 4, placed(2)},
		{ops(over(3), under(2)), 2, placed(1)},
		{ops(under(2), over(3)), 2, placed(0)},
		{ops(over(2), over(3)), 13, placed(2)},
		{ops(under(2), under(3)), 2, placed(12)},
		{ops(tail(), tail(), shift(1, 2), tail()), 0, placed(3)},
		{ops(fby(1), fby(2)), 0, numbered(2)},
		{ops(fby(1), fby(2)), 1, numbered(1)},
		{ops(fby(1), fby(2)), 2, placed(0)},
		{ops(cons(1), fby(2), cons(3)), 0, numbered(3)},
		{ops(cons(1), fby(2), cons(3)), 1, numbered(2)},
		{ops(cons(1), fby(2), cons(3)), 2, numbered(1)},
		{ops(cons(1), fby(2), cons(3)), 3, placed(0)},
		{ops(cons(4), tail()), 0, placed(0)},
		{ops(tail(), cons(4)), 0, numbered(4)},
		{ops(tail(), cons(4)), 1, placed(1)},
		{ops(fby(9), over(3)), 2, numbered(9)},
		{ops(fby(9), over(3)), 3, placed(0)},
		{ops(over(3), fby(9)), 2, placed(0)},
		{ops(fby(9), under(3)), 0, numbered(9)},
		{ops(fby(9), under(3)), 1, placed(2)},
		{ops(under(3), fby(9)), 1, placed(0)},
		{ops(under(2), fby(9), over(3)), 2, numbered(9)},
		{ops(under(2), fby(9), over(3)), 8, placed(2)},
		{ops(over(2), over(2), cons(-7), shift(3, 4), under(5), tail()), 3, placed(4)},
	})
}

// P7.1: the number is whatever stands there, and is no place.
func TestBackTellsAnyNumber(t *testing.T) {
	for _, n := range []int64{0, 1, -1, -5, 1000000000, most, most + 1, math.MaxInt64, math.MinInt64} {
		for _, kind := range []int{api.EFby, api.ECons} {
			o := api.Op{Kind: kind, N: n, D: n}
			backOf(t, ops(o), 0, numbered(n))
			backOf(t, ops(tail(), under(math.MaxInt64), o), 0, numbered(n))
			backOf(t, ops(o), 1, placed(0))
		}
	}
}

// P7.1: what is no factor, or no number, of the operator's isn't asked.
func TestBackLeavesOtherNumbers(t *testing.T) {
	for _, n := range []int64{0, 1, -1, 101, most + 1, math.MaxInt64, math.MinInt64} {
		checkAsked(t, []asked{
			{ops(api.Op{Kind: api.EOver, N: 2, D: n}), 5, placed(2)},
			{ops(api.Op{Kind: api.EUnder, N: 2, D: n}), 5, placed(10)},
			{ops(shift(n, 1)), 5, placed(5)},
			{ops(shift(1, n)), 5, placed(5)},
			{ops(shift(n, n)), 0, placed(0)},
			{ops(api.Op{Kind: api.ETail, N: n, D: n}), 5, placed(6)},
			{ops(api.Op{Kind: api.EFby, N: 3, D: n}), 5, placed(4)},
			{ops(api.Op{Kind: api.ECons, N: 3, D: n}), 5, placed(4)},
			{ops(api.Op{Kind: api.ECons, N: 3, D: n}), 0, numbered(3)},
		})
	}
}

// P7.1: n from 0 to 2^40.
func TestBackOfNoPlace(t *testing.T) {
	lists := [][]api.Op{nil, ops(over(2)), ops(over(math.MaxInt64)), ops(under(1)), ops(shift(1, 2)), ops(fby(3)), ops(cons(4)), ops(tail()), ops(tail(), fby(3))}
	for _, n := range []int64{-1, -2, -most, math.MinInt64, math.MinInt64 + 1, most + 1, most + 2, 1 << 41, 1 << 62, math.MaxInt64} {
		for _, l := range lists {
			backOf(t, l, n, none())
		}
	}
}

// P7.1: what is told on the way is at most 2^40, too, and so is the place.
func TestBackStaysWithin(t *testing.T) {
	const root = int64(1) << 20
	checkAsked(t, []asked{
		{ops(tail()), most - 1, placed(most)},
		{ops(tail()), most, none()},
		{ops(fby(3)), most, placed(most - 1)},
		{ops(cons(3)), most, placed(most - 1)},
		{ops(shift(1, 2)), most, placed(most)},
		{ops(over(1)), most, placed(most)},
		{ops(over(most)), most, placed(1)},
		{ops(over(most)), most - 1, placed(0)},
		{ops(over(most + 1)), most, placed(0)},
		{ops(over(math.MaxInt64)), most, placed(0)},
		{ops(under(1)), most, placed(most)},
		{ops(under(2)), most / 2, placed(most)},
		{ops(under(2)), most/2 + 1, none()},
		{ops(under(3)), most / 3, placed(most / 3 * 3)},
		{ops(under(3)), most/3 + 1, none()},
		{ops(under(100)), 1 << 39, none()},
		{ops(under(root)), root, placed(most)},
		{ops(under(root)), root + 1, none()},
		{ops(under(root + 1)), root, none()},
		{ops(under(most)), 1, placed(most)},
		{ops(under(most)), 2, none()},
		{ops(under(most + 1)), 1, none()},
		// What comes of these goes around to something that could be told.
		{ops(under(1 << 60)), 16, none()},
		{ops(under(1 << 32)), 1 << 32, none()},
		{ops(under(math.MaxInt64)), most, none()},
		{ops(under(math.MaxInt64)), 1, none()},
		{ops(under(math.MaxInt64)), 2, none()},
		{ops(under(1<<62 + 1)), 4, none()},
		{ops(under(math.MaxInt64)), 0, placed(0)},
		// It isn't told on the way, though the place could be.
		{ops(fby(3), tail()), most, none()},
		{ops(over(100), under(100)), most, none()},
		{ops(over(100), under(100)), most / 100, placed(most / 100)},
		{ops(under(100), over(100)), most, placed(most / 100 * 100)},
		{ops(over(math.MaxInt64), under(most), tail()), 0, placed(0)},
		{ops(over(math.MaxInt64), under(most), tail()), 1, none()},
		{ops(tail(), fby(3)), most, placed(most)},
		// The number is told ahead of what would be too much.
		{ops(tail(), under(math.MaxInt64), fby(3)), 0, numbered(3)},
		{ops(tail(), under(math.MaxInt64), fby(3)), 1, placed(1)},
		{ops(tail(), under(math.MaxInt64), fby(3)), 2, none()},
	})
}

// P7.1: an operator that is none, or without a factor, wherever it stands.
func TestBackThroughWrongOperators(t *testing.T) {
	for _, o := range wrongOps() {
		for _, n := range []int64{0, 1, 5, most, most + 1, -1, math.MinInt64, math.MaxInt64} {
			backOf(t, ops(o), n, none())
			backOf(t, ops(o, tail()), n, none())
			backOf(t, ops(tail(), o), n, none())
			backOf(t, ops(tail(), o, over(3)), n, none())
			backOf(t, ops(fby(3), o), n, none())
			backOf(t, ops(o, fby(3)), n, none())
			backOf(t, ops(cons(4), o, cons(3)), n, none())
		}
	}
}

// P7.1: each operator counts, of however many.
func TestBackThroughMany(t *testing.T) {
	const many = 100000
	checkAsked(t, []asked{
		{slices.Repeat(ops(tail()), many), 5, placed(many + 5)},
		{slices.Repeat(ops(tail()), many), most - many, placed(most)},
		{slices.Repeat(ops(tail()), many), most - many + 1, none()},
		{slices.Repeat(ops(fby(3)), many), many, placed(0)},
		{slices.Repeat(ops(fby(3)), many), many - 1, numbered(3)},
		{slices.Repeat(ops(shift(1, 2), cons(1), tail()), many), 7, placed(7)},
		{slices.Repeat(ops(over(2)), 40), most, placed(1)},
		{slices.Repeat(ops(over(2)), 41), most, placed(0)},
		{slices.Repeat(ops(under(2)), 40), 1, placed(most)},
		{slices.Repeat(ops(under(2)), 41), 1, none()},
		{append(slices.Repeat(ops(under(2)), many), fby(3)), 1, placed(0)},
	})
}

// P7.1
func TestLater(t *testing.T) {
	for _, x := range []struct {
		l    []api.Op
		want bool
	}{
		{nil, false},
		{ops(), false},
		{ops(fby(3)), true},
		{ops(fby(0)), true},
		{ops(fby(-3)), true},
		{ops(shift(1, 2)), true},
		{ops(shift(100, 1)), true},
		{ops(shift(-1, 2)), true},
		{ops(shift(1, 0)), true},
		{ops(shift(math.MinInt64, 1)), true},
		{ops(shift(0, 1)), false},
		{ops(shift(0, 100)), false},
		{ops(shift(0, 0)), false},
		{ops(over(2)), false},
		{ops(under(2)), false},
		{ops(tail()), false},
		{ops(cons(3)), false},
		{ops(over(2), under(3), shift(0, 1), tail(), cons(4)), false},
		{ops(fby(3), tail()), true},
		{ops(tail(), fby(3)), true},
		{ops(over(2), fby(0), under(3)), true},
		{ops(shift(0, 1), shift(0, 2), shift(1, 2)), true},
		{ops(shift(1, 2), shift(0, 1), tail()), true},
		{append(slices.Repeat(ops(tail(), shift(0, 1)), 100000), fby(1)), true},
		{append(ops(shift(2, 1)), slices.Repeat(ops(cons(1)), 100000)...), true},
		{slices.Repeat(ops(tail(), cons(1)), 100000), false},
	} {
		if got := index.Later(x.l); got != x.want {
			t.Errorf("Later(%v): %v", x.l[:min(len(x.l), 20)], got)
		}
	}
}

// P7.1: what is none isn't asked for its numbers, and takes nothing from the others.
func TestLaterOfWrongOperators(t *testing.T) {
	for _, o := range wrongOps() {
		if index.Later(ops(o)) || index.Later(ops(o, tail(), o)) {
			t.Errorf("%v isn't later", o)
		}
		if !index.Later(ops(o, fby(1))) || !index.Later(ops(fby(1), o)) || !index.Later(ops(o, shift(1, 1), o)) {
			t.Errorf("what stands beside %v is later", o)
		}
	}
}

// randomOps are operators at random, with small factors.
func randomOps(r *rand.Rand) []api.Op {
	l := make([]api.Op, r.Intn(7))
	for i := range l {
		l[i] = api.Op{Kind: api.EOver + r.Intn(api.ECons-api.EOver+1), N: int64(1 + r.Intn(3)), D: int64(1 + r.Intn(2))}
		if l[i].Kind == api.EShift {
			l[i].N = int64(r.Intn(3))
		}
	}
	return l
}

// behind is what stands behind the operator, of what stands ahead of it: all values, as far as they hang on these.
func behind(o api.Op, l []answer) []answer {
	var made []answer
	switch o.Kind {
	case api.EOver:
		for _, a := range l {
			made = append(made, slices.Repeat([]answer{a}, int(o.N))...)
		}
	case api.EUnder:
		for i := 0; i < len(l); i += int(o.N) {
			made = append(made, l[i])
		}
	case api.EShift:
		made = l
	case api.EFby, api.ECons:
		made = append(made, numbered(o.N))
		made = append(made, l...)
	case api.ETail:
		made = l[min(1, len(l)):]
	}
	return made[:min(len(made), 2000)]
}

// P7.1: a source's values, each marked with its place, are handed through the operators from the inside out: each one's mark is where it comes from.
func TestBackOfMarkedValues(t *testing.T) {
	r := rand.New(rand.NewSource(7))
	source := make([]answer, 1000)
	for i := range source {
		source[i] = placed(int64(i))
	}
	for range 3000 {
		l := randomOps(r)
		values := source
		for _, o := range l {
			values = behind(o, values)
		}
		for n, want := range values {
			backOf(t, l, int64(n), want)
		}
	}
}

// meant is what the chapter says of operators that are well, reckoned with numbers without bounds.
func meant(l []api.Op, n int64) answer {
	told, one := big.NewInt(n), big.NewInt(1)
	for i := len(l) - 1; ; i-- {
		if told.Sign() < 0 || told.Cmp(big.NewInt(most)) > 0 {
			return none()
		}
		if i < 0 {
			return placed(told.Int64())
		}
		switch factor := big.NewInt(l[i].N); l[i].Kind {
		case api.EOver:
			told.Div(told, factor)
		case api.EUnder:
			told.Mul(told, factor)
		case api.EFby, api.ECons:
			if told.Sign() == 0 {
				return numbered(l[i].N)
			}
			told.Sub(told, one)
		case api.ETail:
			told.Add(told, one)
		}
	}
}

// P7.1: at the edges of what can be told, and of what goes around.
func TestBackOfGreatNumbers(t *testing.T) {
	r := rand.New(rand.NewSource(40))
	kinds := map[int]int{}
	for range 200000 {
		l := randomOps(r)
		for i := range l {
			if r.Intn(3) == 0 {
				l[i].N = int64(1)<<r.Intn(63) + int64(r.Intn(2))
			}
		}
		n := int64(1)<<r.Intn(42) + int64(r.Intn(5)-2)
		want := meant(l, n)
		kinds[want.kind]++
		backOf(t, l, n, want)
	}
	for kind := range 3 {
		if kinds[kind] < 1000 {
			t.Errorf("only %d answers of kind %d", kinds[kind], kind)
		}
	}
}

// P7.2
func TestPlacesAreNeverBehind(t *testing.T) {
	r := rand.New(rand.NewSource(72))
	periods := []int64{1, 2, 6, 12, 60, 120, 2000}
	later, same := 0, 0
	for range 100000 {
		source := api.Clock{Period: periods[r.Intn(len(periods))], Phase: int64(r.Intn(5)) * 60}
		l := randomOps(r)
		c, err := clock.All(source, l)
		if err != api.OK {
			continue
		}
		for _, n := range []int64{0, 1, 2, 3, int64(r.Intn(1000)), r.Int63n(most), most - int64(r.Intn(3))} {
			a := back(l, n)
			if a.kind != 1 {
				continue
			}
			read, date := clock.Date(source, a.place), clock.Date(c, n)
			if read > date || index.Later(l) && read == date {
				t.Errorf("%v of %v: the value of %d, place %d, is read at %d", l, source, n, a.place, date)
			}
			if index.Later(l) {
				later++
			} else if read == date {
				same++
			}
		}
	}
	if later < 10000 || same < 10000 {
		t.Errorf("only %d later ones, %d of the same date", later, same)
	}
}

// P7.1: what is handed in is left as it is, its spare room too (R5).
func TestListsAreLeft(t *testing.T) {
	l := ops(fby(3), over(2), shift(1, 2), tail(), under(5), cons(4), fby(9))
	kept := slices.Clone(l)
	for n := range int64(5) {
		index.Back(l[:4], n)
		index.Later(l[:4])
	}
	if !slices.Equal(l, kept) {
		t.Error(l)
	}
}
