package table_test

import (
	"bytes"
	"encoding/binary"
	"math/rand"
	"slices"
	"testing"

	"horarium/api"
	"horarium/sample"
	"horarium/sched"
	"horarium/table"
	"horarium/valid"
)

// outcomes is how often a plan had bytes, and bytes a plan, and how often not.
type outcomes struct {
	well, ill int
}

func (o *outcomes) count(well bool) {
	if well {
		o.well++
	} else {
		o.ill++
	}
}

// meant reads all numbers, as many bytes as each may have, and asks then whether the plan has just these bytes.
func meant(f api.Flat, b []byte) (sched.Plan, bool) {
	var l []int64
	for rest := b[min(3, len(b)):]; len(rest) > 0; {
		n, length := binary.Uvarint(rest)
		if length <= 0 {
			return sched.Plan{}, false
		}
		l = append(l, int64(n))
		rest = rest[length:]
	}
	if len(l) < 3 || l[2] != int64(len(l)/3-1) {
		return sched.Plan{}, false
	}
	p := sched.Plan{S: l[0], H: l[1]}
	free := int64(0)
	for three := range slices.Chunk(l[3:], 3) {
		if len(three) < 3 {
			return sched.Plan{}, false
		}
		s := slot(int(three[0]), int(three[1]), free+three[2])
		p.Slots = append(p.Slots, s)
		free = s.Start + sched.Budget(f, s.Task)
	}
	return p, bytes.Equal(written(f, p), b) && valid.Well(f, p)
}

// asMeant asks for the plan of the bytes.
func asMeant(t *testing.T, f api.Flat, b []byte, o *outcomes) {
	t.Helper()
	want, is := meant(f, b)
	if !is {
		notDecoded(t, f, b)
	} else if p, err := table.Decode(f, b); err != api.OK || !same(p, want) {
		t.Fatalf("%v\n%x: %v, %v; should be %v", f, b, p, err, want)
	}
	o.count(is)
}

// comesAgain asks for the plan's bytes, and of those for the plan, if it is well.
func comesAgain(t *testing.T, f api.Flat, p sched.Plan, o *outcomes) {
	t.Helper()
	b := written(f, p)
	well := valid.Well(f, p)
	o.count(well)
	if !well {
		notEncoded(t, f, p)
		notDecoded(t, f, b)
		return
	}
	if got, err := table.Encode(f, p); err != api.OK || !bytes.Equal(got, b) {
		t.Fatalf("%v\n%v: %x, %v; should be %x", f, p, got, err, b)
	}
	if q, err := table.Decode(f, b); err != api.OK || !same(q, p) {
		t.Fatalf("%v\n%x: %v, %v; should be %v", f, b, q, err, p)
	}
}

// changed is the bytes with some byte behind the first three, or a few, changed.
func changed(r *rand.Rand, b []byte) []byte {
	b = slices.Clone(b)
	if len(b) <= 3 {
		return append(b, byte(r.Intn(256)))
	}
	i := 3 + r.Intn(len(b)-3)
	switch r.Intn(8) {
	case 0:
		b[i] ^= 1 << r.Intn(8)
	case 1:
		b[i]++
	case 2:
		b[i]--
	case 3:
		b = slices.Delete(b, i, i+1)
	case 4:
		b = slices.Insert(b, i, byte(r.Intn(256)))
	case 5:
		b[i] |= 0x80
		b = slices.Insert(b, i+1, 0)
	case 6:
		b = b[:i]
	case 7:
		// Three bytes more, as of a slot.
		b = slices.Insert(b, i, byte(r.Intn(3)), byte(r.Intn(20)), byte(r.Intn(3)))
		b[5]++
	}
	return b
}

// askAll asks of the flat program's plan, if there is one, and of such as come near, and of their bytes and such as come near these.
func askAll(t *testing.T, r *rand.Rand, f api.Flat, plans, tables *outcomes) {
	t.Helper()
	p, err := sched.Make(f)
	if err != api.OK {
		comesAgain(t, f, sched.Plan{H: 1}, plans)
		return
	}
	comesAgain(t, f, p, plans)
	p = sample.Spread(r.Intn, f, p)
	comesAgain(t, f, p, plans)
	for range 4 {
		asMeant(t, f, changed(r, written(f, p)), tables)
		asMeant(t, f, changed(r, changed(r, written(f, p))), tables)
		if len(p.Slots) > 0 {
			q := sample.Changed(r.Intn, f, p)
			comesAgain(t, f, q, plans)
			asMeant(t, f, changed(r, written(f, q)), tables)
		}
	}
}

func enough(t *testing.T, least int, l ...outcomes) {
	t.Helper()
	for _, o := range l {
		if o.well < least || o.ill < least {
			t.Error(l)
		}
	}
}

// P14.1, P14.2: of programs as they are written.
func TestProgramsAtRandom(t *testing.T) {
	r := rand.New(rand.NewSource(14))
	var plans, tables outcomes
	for i := range 1500 {
		m := sample.Maker{Pick: r.Intn, Periods: []int64{4, 6, 8, 12}, Many: 1 + i%8, Deep: 1 + i%4, Budget: 1 + i%3, Deadline: 30}
		if f, is := sample.Made(m.Text()); is {
			askAll(t, r, f, &plans, &tables)
		}
	}
	enough(t, 100, plans, tables)
}

// P14.1, P14.2: of flat programs that none need have written.
func TestFlatsAtRandom(t *testing.T) {
	r := rand.New(rand.NewSource(141))
	var plans, tables outcomes
	m := sample.Flats{Pick: r.Intn, Clocks: []api.Clock{every(4, 0), every(4, 6), every(6, 0), every(6, 9), every(8, 3), every(12, 8)}, Tasks: 5, Tells: 3, Deadline: 20}
	for i := range 1500 {
		m.Budget = 1 + i%4
		askAll(t, r, m.Flat(), &plans, &tables)
	}
	enough(t, 50, plans, tables)
}

// P14.1, P14.2: of tasks that read inputs alone, with much room, so that numbers have up to two bytes.
func TestRowsAtRandom(t *testing.T) {
	r := rand.New(rand.NewSource(1414))
	var plans, tables outcomes
	for range 1500 {
		budgets, clocks := make([]int64, 1+r.Intn(3)), []api.Clock(nil)
		for i := range budgets {
			clocks = append(clocks, every([]int64{100, 200, 400}[r.Intn(3)], r.Int63n(300)))
			budgets[i] = 1 + r.Int63n(30)
		}
		askAll(t, r, sample.Row(budgets, clocks...), &plans, &tables)
	}
	enough(t, 300, plans, tables)
}

// P14.1: of bytes that need be nothing.
func TestBytesAtRandom(t *testing.T) {
	r := rand.New(rand.NewSource(14141))
	var tables outcomes
	f := made(t, chain)
	few := []byte{0, 0, 0, 1, 1, 2, 3, 5, 10, 0x80, 0x81, 0xff}
	for range 20000 {
		b := []byte{0x48, 0x54, 0x01}
		for range r.Intn(12) {
			b = append(b, few[r.Intn(len(few))])
		}
		asMeant(t, f, b, &tables)
		asMeant(t, api.Flat{}, b, &tables)
		asMeant(t, f, append(unhex("485401 000a02 01"), b[3:]...), &tables)
	}
	enough(t, 10, tables)
}

// P14.1: all short ones of a few bytes, of what has no tasks.
func TestAllShortBytes(t *testing.T) {
	few := []byte{0, 1, 2, 0x7f, 0x80, 0x81}
	l := [][]byte{nil}
	for range 5 {
		var longer [][]byte
		for _, b := range l {
			for _, c := range few {
				longer = append(longer, append(slices.Clone(b), c))
			}
		}
		for _, b := range longer {
			b = slices.Concat([]byte{0x48, 0x54, 0x01}, b)
			if slices.Equal(b, []byte{0x48, 0x54, 0x01, 0, 1, 0}) {
				isBytes(t, api.Flat{}, plan(0, 1), "485401 000100")
			} else {
				notDecoded(t, api.Flat{}, b)
			}
		}
		l = longer
	}
}
