// Package sample makes texts of programs, flat programs, and plans that differ from one, picked at random by what it is handed, for the layers' tests.
package sample

import (
	"slices"
	"strconv"
	"strings"

	"horarium/api"
)

// Maker makes texts of programs whose flows' clocks are settled ahead. They are well, but that some flows hang on themselves alone.
type Maker struct {
	Pick     func(n int) int // a number from 0 on, below n
	Periods  []int64         // some, of flows
	Many     int             // the most flows
	Deep     int             // how deep, at most, the expressions are that hold some
	Budget   int             // the greatest, of a node
	Deadline int             // the greatest, of an output

	// Of the text that was made last:
	Inputs []api.Clock // of i0, i1, ..
	Flows  []api.Clock // of f0, f1, ..

	ranks []int // of flows: most hang on such of lower ranks alone
	at    int   // the flow that is made
}

// Text is a program: its nodes n1 to n3, which have so many parameters, its flows, its inputs, and outputs of some flows.
func (m *Maker) Text() string {
	m.Inputs, m.Flows = nil, nil
	for range 1 + m.Pick(m.Many) {
		m.Flows = append(m.Flows, m.clock())
	}
	m.rank()
	var lines []string
	for i, params := range []string{"a", "a, b", "a, b, c"} {
		lines = append(lines, "node n"+strconv.Itoa(i+1)+"("+params+") budget "+m.upTo(m.Budget)+" { a * -"+params[len(params)-1:]+" ? a : 7 }")
	}
	for i, c := range m.Flows {
		m.at = i
		lines = append(lines, "flow f"+strconv.Itoa(i)+" = "+m.expr(c, m.Pick(m.Deep+1))+";")
	}
	for i, c := range m.Inputs {
		lines = append(lines, "input i"+strconv.Itoa(i)+" period "+digits(c.Period)+" phase "+digits(c.Phase)+";")
	}
	for i := range m.Pick(3) {
		lines = append(lines, "output o"+strconv.Itoa(i)+" = f"+strconv.Itoa(m.Pick(len(m.Flows)))+" deadline "+m.upTo(m.Deadline)+";")
	}
	return strings.Join(lines, "\n")
}

// clock is one of a few clocks, so that some come together.
func (m *Maker) clock() api.Clock {
	return api.Clock{Period: m.Periods[m.Pick(len(m.Periods))], Phase: int64(m.Pick(3)) * 2}
}

// rank gives each flow another rank.
func (m *Maker) rank() {
	m.ranks = nil
	for i := range m.Flows {
		m.ranks = slices.Insert(m.ranks, m.Pick(i+1), i)
	}
}

func (m *Maker) upTo(most int) string {
	return strconv.Itoa(1 + m.Pick(most))
}

func digits(n int64) string {
	return strconv.FormatInt(n, 10)
}

// named is a name of what has the clock: of a flow or an input that is there, else of an input that is put in.
func (m *Maker) named(c api.Clock) string {
	var l []string
	for i := range m.Flows {
		if m.Flows[i] == c && (m.ranks[i] < m.ranks[m.at] || m.Pick(20) == 0) {
			l = append(l, "f"+strconv.Itoa(i))
		}
	}
	at := slices.Index(m.Inputs, c)
	if at < 0 && (len(l) == 0 || m.Pick(8) == 0) {
		at = len(m.Inputs)
		m.Inputs = append(m.Inputs, c)
	}
	if at >= 0 {
		l = append(l, "i"+strconv.Itoa(at))
	}
	return l[m.Pick(len(l))]
}

// expr is an expression of the clock, in brackets where it may need them.
func (m *Maker) expr(c api.Clock, deep int) string {
	n := int64(1 + m.Pick(3))
	number := digits(n)
	switch choice := m.Pick(12); {
	case deep == 0:
		return m.named(c)
	case choice == 0:
		return "(-" + number + " fby " + m.expr(c, deep-1) + ")"
	case choice == 1 && c.Phase >= c.Period:
		return "(tail " + m.expr(api.Clock{Period: c.Period, Phase: c.Phase - c.Period}, deep-1) + ")"
	case choice == 2 && c.Phase+c.Period <= api.MaxTicks:
		return "(" + number + " :: " + m.expr(api.Clock{Period: c.Period, Phase: c.Phase + c.Period}, deep-1) + ")"
	case choice == 3 && c.Period*n <= api.MaxTicks:
		return m.expr(api.Clock{Period: c.Period * n, Phase: c.Phase}, deep-1) + " *^ " + number
	case choice == 4 && c.Period%n == 0:
		return m.expr(api.Clock{Period: c.Period / n, Phase: c.Phase}, deep-1) + " /^ " + number
	case choice == 5 && c.Phase*2 >= c.Period*n && c.Period*n%2 == 0:
		return m.expr(api.Clock{Period: c.Period, Phase: c.Phase - c.Period*n/2}, deep-1) + " ~> " + number + "/2"
	case choice < 9:
		return m.named(c)
	}
	args := make([]string, n)
	for i := range args {
		args[i] = m.expr(c, deep-1)
	}
	return "n" + number + "(" + strings.Join(args, ", ") + ")"
}
