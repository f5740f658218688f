package tool

import (
	"errors"

	"horarium/api"
)

// refusal is what is answered of a text that can't be compiled: errors.As finds the fault in it, errors.Is the error.
type refusal struct {
	fault *Fault
}

func (r *refusal) Error() string {
	return r.fault.Error()
}

func (r *refusal) Unwrap() error {
	return r.fault
}

// faultOf is the fault in a step's error; of an error without a place, as that of an order or a plan, one at 0.
func faultOf(err error) *Fault {
	var f *Fault
	if errors.As(err, &f) {
		return f
	}
	var bare api.Errno
	errors.As(err, &bare)
	return &Fault{Err: bare}
}
