package arith_test

import (
	"math"
	"math/big"
	"slices"
	"testing"

	"horarium/arith"
)

// edges are the numbers at which something goes around, or changes its sign, and those beside them.
func edges() []int64 {
	var l []int64
	for _, n := range []int64{
		math.MinInt64, math.MinInt64 / 2, math.MinInt64 / 3, -1 << 32, -1 << 31, -3037000499,
		-1000, 0, 10, 1000, 1 << 31, 1 << 32, 3037000499, math.MaxInt64 / 3, math.MaxInt64 / 2, math.MaxInt64,
	} {
		for d := int64(-2); d <= 2; d++ {
			l = append(l, n+d)
		}
	}
	slices.Sort(l)
	return slices.Compact(l)
}

// exact says what a call should answer whose result without bounds is n.
func exact(n *big.Int) (int64, bool) {
	if !n.IsInt64() {
		return 0, false
	}
	return n.Int64(), true
}

func pair(t *testing.T, name string, got int64, ok bool, want int64, wantOK bool, args ...int64) {
	t.Helper()
	if got != want || ok != wantOK {
		t.Errorf("%s%v: %d, %t; should be %d, %t", name, args, got, ok, want, wantOK)
	}
}

// P1.1, against numbers without bounds.
func TestAddAndMulAtTheEdges(t *testing.T) {
	for _, a := range edges() {
		for _, b := range edges() {
			x, y := big.NewInt(a), big.NewInt(b)
			sum, ok := arith.Add(a, b)
			want, wantOK := exact(new(big.Int).Add(x, y))
			pair(t, "Add", sum, ok, want, wantOK, a, b)
			product, ok := arith.Mul(a, b)
			want, wantOK = exact(new(big.Int).Mul(x, y))
			pair(t, "Mul", product, ok, want, wantOK, a, b)
		}
	}
}

// P1.1
func TestAdd(t *testing.T) {
	for _, c := range []struct {
		a, b, want int64
		ok         bool
	}{
		{0, 0, 0, true},
		{3, -5, -2, true},
		{math.MaxInt64, 0, math.MaxInt64, true},
		{math.MaxInt64, 1, 0, false},
		{1, math.MaxInt64, 0, false},
		{math.MinInt64, 0, math.MinInt64, true},
		{math.MinInt64, -1, 0, false},
		{math.MinInt64, math.MinInt64, 0, false},
		{math.MinInt64, math.MaxInt64, -1, true},
		{1 << 62, 1 << 62, 0, false},
		{-1 << 62, -1 << 62, math.MinInt64, true},
	} {
		got, ok := arith.Add(c.a, c.b)
		pair(t, "Add", got, ok, c.want, c.ok, c.a, c.b)
	}
}

// P1.1
func TestMul(t *testing.T) {
	for _, c := range []struct {
		a, b, want int64
		ok         bool
	}{
		{0, math.MinInt64, 0, true},
		{math.MinInt64, 0, 0, true},
		{6, -7, -42, true},
		{math.MinInt64, 1, math.MinInt64, true},
		{math.MinInt64, -1, 0, false},
		{-1, math.MinInt64, 0, false},
		{-1, math.MaxInt64, -math.MaxInt64, true},
		{1 << 31, 1 << 32, 0, false},
		{-1 << 31, 1 << 32, math.MinInt64, true},
		{1 << 32, 1 << 32, 0, false},
		{3037000499, 3037000499, 9223372030926249001, true},
		{3037000500, 3037000500, 0, false},
	} {
		got, ok := arith.Mul(c.a, c.b)
		pair(t, "Mul", got, ok, c.want, c.ok, c.a, c.b)
	}
}

// P1.2: of small numbers the greatest one is looked for, one by one.
func TestGcdOfSmallNumbers(t *testing.T) {
	for a := int64(1); a <= 60; a++ {
		for b := int64(1); b <= 60; b++ {
			want := int64(1)
			for d := int64(1); d <= min(a, b); d++ {
				if a%d == 0 && b%d == 0 {
					want = d
				}
			}
			if got := arith.Gcd(a, b); got != want {
				t.Errorf("Gcd(%d, %d): %d; should be %d", a, b, got, want)
			}
		}
	}
}

// P1.2
func TestGcd(t *testing.T) {
	for _, c := range [][3]int64{
		{12, 18, 6},
		{0, 0, 0},
		{0, 5, 5},
		{5, 0, 5},
		{-12, 18, 18},
		{12, -18, 12},
		{-3, -5, 0},
		{-1, 0, 0},
		{1, -1, 1},
		{math.MinInt64, math.MinInt64, 0},
		{math.MinInt64, 1 << 62, 1 << 62},
		{math.MaxInt64, math.MaxInt64, math.MaxInt64},
		{math.MaxInt64, math.MaxInt64 - 1, 1},
		{1 << 62, 3 << 60, 1 << 60},
	} {
		if got := arith.Gcd(c[0], c[1]); got != c[2] {
			t.Errorf("Gcd(%d, %d): %d; should be %d", c[0], c[1], got, c[2])
		}
	}
}

// P1.2: of small numbers the least one is looked for, one by one.
func TestLcmOfSmallNumbers(t *testing.T) {
	for a := int64(1); a <= 12; a++ {
		for b := int64(1); b <= 12; b++ {
			for c := int64(1); c <= 12; c++ {
				want := int64(1)
				for want%a != 0 || want%b != 0 || want%c != 0 {
					want++
				}
				got, ok := arith.Lcm(a, b, c)
				pair(t, "Lcm", got, ok, want, true, a, b, c)
			}
		}
	}
}

// P1.2
func TestLcm(t *testing.T) {
	for _, c := range []struct {
		l    []int64
		want int64
		ok   bool
	}{
		{nil, 1, true},
		{[]int64{}, 1, true},
		{[]int64{1}, 1, true},
		{[]int64{7}, 7, true},
		{[]int64{4, 6}, 12, true},
		{[]int64{2, 3, 4, 5, 6}, 60, true},
		{[]int64{0}, 0, false},
		{[]int64{4, 0}, 0, false},
		{[]int64{0, 4}, 0, false},
		{[]int64{-4, 6}, 0, false},
		{[]int64{4, 6, math.MinInt64}, 0, false},
		{[]int64{1 << 62, 3}, 0, false},
		{[]int64{3, 1 << 62, 0}, 0, false},
		{[]int64{1 << 62, 1 << 61, 2}, 1 << 62, true},
		{[]int64{math.MaxInt64}, math.MaxInt64, true},
		{[]int64{math.MaxInt64, math.MaxInt64, 7}, math.MaxInt64, true},
		{[]int64{math.MaxInt64, 2}, 0, false},
		{[]int64{1 << 31, 1 << 31, 1<<31 - 1}, 1 << 31 * (1<<31 - 1), true},
	} {
		got, ok := arith.Lcm(c.l...)
		pair(t, "Lcm", got, ok, c.want, c.ok, c.l...)
	}
}

// P1.2: what is handed in is left as it is, its spare room too (R5).
func TestLcmLeavesItsNumbers(t *testing.T) {
	l := []int64{4, 6, 10, 99}
	arith.Lcm(l[:3]...)
	if !slices.Equal(l, []int64{4, 6, 10, 99}) {
		t.Error(l)
	}
}

// P1.2
func TestFloor(t *testing.T) {
	for _, c := range [][4]int64{
		{-1, 5, -1, 4},
		{-5, 5, -1, 0},
		{-6, 5, -2, 4},
		{-7, 3, -3, 2},
		{0, 3, 0, 0},
		{7, 3, 2, 1},
		{6, 3, 2, 0},
		{7, 0, 0, 0},
		{7, -3, 0, 0},
		{-7, -3, 0, 0},
		{math.MinInt64, -1, 0, 0},
		{math.MinInt64, 1, math.MinInt64, 0},
		{math.MinInt64, 2, math.MinInt64 / 2, 0},
		{math.MinInt64, math.MaxInt64, -2, math.MaxInt64 - 1},
		{math.MaxInt64, math.MaxInt64, 1, 0},
		{-1, math.MaxInt64, -1, math.MaxInt64 - 1},
		{5, math.MinInt64, 0, 0},
	} {
		if q, r := arith.Floor(c[0], c[1]); q != c[2] || r != c[3] {
			t.Errorf("Floor(%d, %d): %d, %d; should be %d, %d", c[0], c[1], q, r, c[2], c[3])
		}
	}
}

// P1.3: the quotient times d, and what is left, are n; what is left is from 0 on, below d, so that it is the one quotient.
func TestFloorComesBack(t *testing.T) {
	for _, n := range edges() {
		for _, d := range edges() {
			if d < 1 {
				continue
			}
			q, r := arith.Floor(n, d)
			back := new(big.Int).Mul(big.NewInt(q), big.NewInt(d))
			back.Add(back, big.NewInt(r))
			if back.Cmp(big.NewInt(n)) != 0 || r < 0 || r >= d {
				t.Errorf("Floor(%d, %d): %d, %d", n, d, q, r)
			}
		}
	}
}
