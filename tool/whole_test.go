package tool_test

import (
	"errors"
	"fmt"
	"slices"
	"strings"
	"testing"

	"horarium/api"
	"horarium/run"
	"horarium/stream"
	"horarium/tool"
)

// ofX is values of the input x.
var ofX = [][]int64{{5, 6, 7, 8, 9}}

// one is a node that hands on what it is given, and an input.
const one = "node k(a) budget 1 { a } input x period 10; "

// says is what the only tell says, at dates up to until; each as date:value.
func says(t *testing.T, m *tool.Made, in [][]int64, until int64) string {
	t.Helper()
	r, err := run.Run(m.Flat, m.Plan, in, nil, until)
	if err != api.OK || r.Overrun {
		t.Fatal(*m, r, err)
	}
	var l []string
	for _, s := range r.Said {
		l = append(l, fmt.Sprintf("%d:%d", s.Date, s.Value))
	}
	return strings.Join(l, " ")
}

// P1: the whole's first example: a sum, told 4 ticks later.
func TestSum(t *testing.T) {
	m := compiled(t, "node n(a, b) budget 2 { a + b } input x period 10; flow f = n(x, 0 fby f); output o = f deadline 4;")
	if l := says(t, m, ofX, 64); l != "4:5 14:11 24:18 34:26 44:35 54:35 64:35" {
		t.Error(l)
	}
}

// P4, P5: the whole's second example: each 5 ticks there is no room for twice 3.
func TestMiss(t *testing.T) {
	s := "node n(a) budget 3 { a } input x period 5; flow f = n(x); "
	compiled(t, s)
	compiled(t, s+"node m(a) budget 2 { a } flow g = m(x);")
	faultIs(t, s+"flow g = n(x);", api.ErrMiss)
	faultIs(t, s+"flow g = n(f);", api.ErrMiss)
}

// P3: the whole's third example: what is read 20 ticks later waits in three cells; in two, if the reader goes first.
func TestThreeCells(t *testing.T) {
	s := "node n(a) budget 2 { a } input x period 10; flow g = n(x); flow f = n(g ~> 2/1); output o = f deadline "
	for deadline, want := range map[string][]int{"10;": {3, 1}, "9;": {2, 1}} {
		if m := compiled(t, s+deadline); !slices.Equal(m.Cells, want) {
			t.Error(deadline, m.Cells)
		}
	}
	if l := says(t, compiled(t, s+"10;"), ofX, 60); l != "30:5 40:6 50:7 60:8" {
		t.Error(l)
	}
}

// P4: the whole's fourth example: what hangs on itself at once.
func TestCycle(t *testing.T) {
	s := "node n(a, b) budget 2 { a + b } input x period 10; "
	faultIs(t, s+"flow f = n(x, f);", api.ErrCycle)
	compiled(t, s+"flow f = n(x, 0 fby f);")
	compiled(t, s+"flow f = n(x, 0 :: f ~> 1/1);")
}

// P1: what each operator says, within a call and around it.
func TestOperators(t *testing.T) {
	for _, x := range []struct{ text, want string }{
		{"k(x)", "3:5 13:6 23:7 33:8"},
		{"k(x) *^ 2", "3:5 8:5 13:6 18:6 23:7 28:7 33:8"},
		{"k(x *^ 2)", "3:5 8:5 13:6 18:6 23:7 28:7 33:8"},
		{"k(x) /^ 2", "3:5 23:7"},
		{"k(x /^ 2)", "3:5 23:7"},
		{"k(x) ~> 1/2", "8:5 18:6 28:7"},
		{"k(x ~> 1/2)", "8:5 18:6 28:7"},
		{"k(x) ~> 0/7", "3:5 13:6 23:7 33:8"},
		{"-7 fby k(x)", "3:-7 13:5 23:6 33:7"},
		{"k(-7 fby x)", "3:-7 13:5 23:6 33:7"},
		{"tail k(x)", "13:6 23:7 33:8"},
		{"k(tail x)", "13:6 23:7 33:8"},
		{"1 :: tail k(x)", "3:1 13:6 23:7 33:8"},
		{"k(4 :: k(x ~> 3/2))", "8:4 18:5 28:6"},
		{"k(2 fby k(x) /^ 2) *^ 2", "3:2 13:2 23:5 33:5"},
		{"tail x", "13:6 23:7 33:8"},
	} {
		m := compiled(t, one+"flow f = "+x.text+"; output o = f deadline 3;")
		if l := says(t, m, ofX, 34); l != x.want {
			t.Errorf("%s: %s; should be %s", x.text, l, x.want)
		}
	}
}

// P6: an overrun, of the plan that was compiled: what is said up to its start is what would have been.
func TestOverrun(t *testing.T) {
	m := compiled(t, one+"flow f = k(x); output o = f deadline 10;")
	for i, many := range []int{0, 1, 2, 3, 4, 4} {
		times := append(slices.Repeat([]int64{1}, i), 2)
		r, err := run.Run(m.Flat, m.Plan, ofX, times, 45)
		want := api.Slot{Job: i, Start: int64(10 * i)}
		if i == 5 {
			want = api.Slot{}
		}
		// At 10 the value is told ahead of the start of the next job.
		if err != api.OK || r.Overrun != (i < 5) || r.Slot != want || len(r.Said) != many {
			t.Error(i, r, err)
		}
		for n, s := range r.Said {
			if s != (stream.Said{Job: int64(n), Date: int64(10 * (n + 1)), Value: ofX[0][n]}) {
				t.Error(i, s)
			}
		}
	}
}

// P5: a chain on one clock, whose budgets come just to the period, or to the deadline, has a plan; one more is a miss.
func TestChainToTheTick(t *testing.T) {
	chain := "node k(a) budget 1 { a } node m(a) budget 4 { a } node n(a) budget 5 { a } input x period 10 phase 3; flow f = "
	for ok, beyond := range map[string]string{
		"n(k(m(x)));":                              "n(k(k(m(x))));",
		"n(k(m(x))); output o = f deadline 10;":    "n(k(m(x))); output o = f deadline 9;",
		"k(m(x)); output o = f deadline 5;":        "k(m(x)); output o = f deadline 4;",
		"n(n(x)); output o = f deadline 1000;":     "n(n(k(x))); output o = f deadline 1000;",
		"k(x); output o = f deadline 1;":           "k(k(x)); output o = f deadline 1;",
		"m(m(k(k(x)))); output o = f deadline 10;": "m(m(k(k(x)))); output o = f deadline 9;",
	} {
		compiled(t, chain+ok)
		faultIs(t, chain+beyond, api.ErrMiss)
	}
}

// P4: a text for each of the nine errors; no other one is ever told.
func TestNine(t *testing.T) {
	for _, x := range []struct {
		text string
		want api.Errno
	}{
		{"flow f", api.ErrSyntax},
		{"flow f = " + again("1 :: ", 20) + "x;", api.ErrDepth},
		{"flow f = y;", api.ErrName},
		{"flow f = k(x, x);", api.ErrArity},
		{"flow f = 1 :: x;", api.ErrClock},
		{"flow f = k(f);", api.ErrCycle},
		{"flow f = x /^ 101;", api.ErrRange},
		{"flow f = x" + again("/^ 1 ", 11) + "; flow g = f" + again("/^ 1 ", 10) + ";", api.ErrLimit},
		{"flow f = k(x *^ 10); flow g = k(f);", api.ErrMiss},
	} {
		if _, err := tool.Compile(one + x.text); !errors.Is(err, x.want) {
			t.Error(x.text, err)
		}
	}
}
