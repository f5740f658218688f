package table

import (
	"errors"
	"testing"

	"horarium/api"
	"horarium/sample"
)

// P14.1: what is wrong is told with its place, and errors.Is finds in it the error that is answered.
func TestFaults(t *testing.T) {
	f, is := sample.Made("node n(a) budget 2 { a } node m(a) budget 3 { a } input x period 10; flow f = n(m(x));")
	if !is {
		t.Fatal("no program")
	}
	good := head + "\x00\x0a\x02\x01\x00\x00\x00\x00\x00"
	if p, err := read(f, []byte(good)); err != nil || len(p.Slots) != 2 {
		t.Fatal(p, err)
	}
	for _, x := range []struct {
		bytes, what string
		at          int
	}{
		{"", foreign, 0},
		{"HT", foreign, 0},
		{"HT\x02" + good[3:], foreign, 0},
		{head, cut, 3},
		{head + "\x00\x8a", cut, 5},
		{good[:8], cut, 8},
		{good[:11], cut, 11},
		{head + "\x80\x00" + good[4:], long, 4},
		{head + "\x00\x8a\x80\x00" + good[5:], long, 6},
		{good[:11] + "\x80\x00", long, 12},
		{head + "\x00\x8a\x80\x80\x80\x00", great, 8},
		{head + "\x00\xff\xff\xff\xff\x7f", great, 8},
		{head + "\x00\x0a\xa1\x1f", many, 7},
		{head + "\x00\x0a\xa0\x1f", cut, 7},
		{good + "\x00", rest, 12},
		{good[:11] + "\x06", ill, 12},
		{head + "\x00\x0b" + good[5:], ill, 12},
	} {
		p, err := read(f, []byte(x.bytes))
		var told *fault
		if !errors.Is(err, api.ErrForm) || errors.Is(err, api.ErrArg) || !errors.As(err, &told) {
			t.Errorf("%x: %v", x.bytes, err)
			continue
		}
		if told.what != x.what || told.at != x.at || p.H != 0 || p.Slots != nil {
			t.Errorf("%x: %v, %v; should be %s at %d", x.bytes, p, told, x.what, x.at)
		}
	}
	if told := (&fault{what: cut, at: 12}).Error(); told != "no more bytes at 12" {
		t.Error(told)
	}
}
