package table

import (
	"bytes"
	"strconv"

	"horarium/api"
	"horarium/sched"
)

// What can be wrong with bytes.
const (
	foreign = "not a plan's bytes"
	cut     = "no more bytes"
	long    = "more bytes of a number than it needs"
	great   = "too great a number"
	many    = "too many slots"
	rest    = "bytes behind the plan's"
	ill     = "a plan that isn't well"
)

// fault is what is wrong, and the byte at which it was met; it wraps the error that is answered.
type fault struct {
	what string
	at   int
}

func (f *fault) Error() string {
	return f.what + " at " + strconv.Itoa(f.at)
}

func (f *fault) Unwrap() error {
	return api.ErrForm
}

// reader reads what stands at a place in bytes, and goes on behind it.
type reader struct {
	b  []byte
	at int
}

func (r *reader) wrong(what string) error {
	return &fault{what: what, at: r.at}
}

// plan is the plan at the bytes' beginning, well or not.
func (r *reader) plan(f api.Flat) (sched.Plan, error) {
	if !bytes.HasPrefix(r.b, []byte(head)) {
		return sched.Plan{}, r.wrong(foreign)
	}
	r.at = len(head)
	l, err := r.three()
	if err != nil {
		return sched.Plan{}, err
	}
	p := sched.Plan{S: l[0], H: l[1]}
	// Asked ahead, so that no more is kept than a plan may have.
	if l[2] > api.MaxSlots {
		return sched.Plan{}, r.wrong(many)
	}
	end := int64(0)
	for range l[2] {
		s, err := r.slot(end)
		if err != nil {
			return sched.Plan{}, err
		}
		p.Slots = append(p.Slots, s)
		end = s.Start + sched.Budget(f, s.Task)
	}
	return p, nil
}

// slot is the next slot, behind one that ends at the given time.
func (r *reader) slot(end int64) (api.Slot, error) {
	l, err := r.three()
	if err != nil {
		return api.Slot{}, err
	}
	return api.Slot{Task: int(l[0]), Job: int(l[1]), Start: end + l[2]}, nil
}

// three is the next three numbers: all that a plan has comes by threes.
func (r *reader) three() ([3]int64, error) {
	var l [3]int64
	for i := range l {
		n, err := r.number()
		if err != nil {
			return [3]int64{}, err
		}
		l[i] = n
	}
	return l, nil
}

// number is the next number.
func (r *reader) number() (int64, error) {
	n := int64(0)
	for i := range maxBytes {
		if r.at == len(r.b) {
			return 0, r.wrong(cut)
		}
		b := r.b[r.at]
		if b == 0 && i > 0 {
			return 0, r.wrong(long)
		}
		r.at++
		n |= int64(b&low) << (bits * i)
		if b&more == 0 {
			return n, nil
		}
	}
	return 0, r.wrong(great)
}
