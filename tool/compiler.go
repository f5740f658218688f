package tool

import (
	"horarium/api"
	"horarium/cells"
	"horarium/check"
	"horarium/flat"
	"horarium/order"
	"horarium/sched"
	"horarium/syntax"
	"horarium/table"
)

// compiler is a text, as far as it is compiled. Each step answers its layer's error, which is OK where nothing is wrong, wrapped in a fault if it has a place.
type compiler struct {
	text    string
	program api.Program
	clocks  []api.Clock // of the program's flows
	made    *Made
}

func (c *compiler) read() error {
	p, at, err := syntax.Parse(c.text)
	c.program = p
	return &Fault{At: at, Err: err}
}

func (c *compiler) check() error {
	clocks, at, err := check.Check(c.program)
	c.clocks = clocks
	return &Fault{At: at, Err: err}
}

func (c *compiler) flatten() error {
	f, at, err := flat.Make(c.program, c.clocks)
	c.made.Flat = f
	return &Fault{At: at, Err: err}
}

// order asks only whether there is an order: a plan goes by its own.
func (c *compiler) order() error {
	_, err := order.Of(c.made.Flat)
	return err
}

func (c *compiler) plan() error {
	p, err := sched.Make(c.made.Flat)
	c.made.Plan = p
	return err
}

func (c *compiler) count() error {
	counts, err := cells.Count(c.made.Flat, c.made.Plan)
	c.made.Cells = counts
	return err
}

func (c *compiler) encode() error {
	b, err := table.Encode(c.made.Flat, c.made.Plan)
	c.made.Table = b
	return err
}
