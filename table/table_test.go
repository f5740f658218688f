package table_test

import (
	"bytes"
	"encoding/binary"
	"encoding/hex"
	"math"
	"reflect"
	"slices"
	"strings"
	"testing"

	"horarium/api"
	"horarium/sample"
	"horarium/sched"
	"horarium/table"
	"horarium/valid"
)

// head is nodes m and n, of one parameter, and k of two, and inputs; y alone doesn't come at once.
const head = "node m(a) budget 3 { a } node n(a) budget 2 { a } node k(a, b) budget 1 { a + b } " +
	"input x period 10; input y period 20 phase 40; input z period 200; "

// chain is of tasks 0, n, and 1, m, each 10 ticks.
const chain = "flow f = n(m(x));"

// chainBytes is those of the chain's plan: m at 0, n at 3.
const chainBytes = "485401 000a02 010000 000000"

func every(period, phase int64) api.Clock { return api.Clock{Period: period, Phase: phase} }

// slot is that of the task's job.
func slot(task, job int, start int64) api.Slot {
	return api.Slot{Task: task, Job: job, Start: start}
}

func plan(s, h int64, slots ...api.Slot) sched.Plan {
	return sched.Plan{S: s, H: h, Slots: slots}
}

func same(a, b sched.Plan) bool {
	return a.S == b.S && a.H == b.H && slices.Equal(a.Slots, b.Slots)
}

// made is the text's program, behind the head, made flat.
func made(t *testing.T, s string) api.Flat {
	t.Helper()
	f, is := sample.Made(head + s)
	if !is {
		t.Fatal(s)
	}
	return f
}

// unhex is the bytes that are written so, blanks left out.
func unhex(s string) []byte {
	b, err := hex.DecodeString(strings.ReplaceAll(s, " ", ""))
	if err != nil {
		panic(err)
	}
	return b
}

// written is the plan's bytes, be it well or not: encoding/binary's numbers are the chapter's.
func written(f api.Flat, p sched.Plan) []byte {
	b := []byte{0x48, 0x54, 0x01}
	numbers := []int64{p.S, p.H, int64(len(p.Slots))}
	free := int64(0)
	for _, s := range p.Slots {
		numbers = append(numbers, int64(s.Task), int64(s.Job), s.Start-free)
		free = s.Start + sched.Budget(f, s.Task)
	}
	for _, n := range numbers {
		b = binary.AppendUvarint(b, uint64(n))
	}
	return b
}

// isBytes asks for the plan's bytes, and for the plan that has them.
func isBytes(t *testing.T, f api.Flat, p sched.Plan, want string) {
	t.Helper()
	b, err := table.Encode(f, p)
	if err != api.OK || !bytes.Equal(b, unhex(want)) {
		t.Errorf("%v: %x, %v; should be %s", p, b, err, want)
	}
	if q, err := table.Decode(f, unhex(want)); err != api.OK || !same(q, p) {
		t.Errorf("%s: %v, %v; should be %v", want, q, err, p)
	}
}

// notEncoded asks for the bytes of a plan that has none.
func notEncoded(t *testing.T, f api.Flat, p sched.Plan) {
	t.Helper()
	if b, err := table.Encode(f, p); err != api.ErrForm || b != nil {
		t.Errorf("%v: %x, %v", p, b, err)
	}
}

// notDecoded asks for a plan of bytes that are none's.
func notDecoded(t *testing.T, f api.Flat, b []byte) {
	t.Helper()
	if p, err := table.Decode(f, b); err != api.ErrForm || p.S != 0 || p.H != 0 || p.Slots != nil {
		t.Errorf("%x: %v, %v", b, p, err)
	}
}

// P14.1: the chapter's example.
func TestExample(t *testing.T) {
	for _, slots := range [][]api.Slot{nil, {}} {
		isBytes(t, api.Flat{}, plan(0, 1, slots...), "485401 000100")
		isBytes(t, made(t, ""), plan(0, 1, slots...), "485401 000100")
		isBytes(t, made(t, "flow f = x; output o = f deadline 7;"), plan(7, 10, slots...), "485401 070a00")
	}
}

// P14.1: a start stands as how far it is behind the end of the slot ahead, the first one's behind 0.
func TestStarts(t *testing.T) {
	f := made(t, chain)
	isBytes(t, f, plan(0, 10, slot(1, 0, 0), slot(0, 0, 3)), chainBytes)
	isBytes(t, f, plan(0, 10, slot(1, 0, 0), slot(0, 0, 4)), "485401 000a02 010000 000001")
	isBytes(t, f, plan(0, 10, slot(1, 0, 0), slot(0, 0, 8)), "485401 000a02 010000 000005")
	isBytes(t, f, plan(0, 10, slot(1, 0, 1), slot(0, 0, 4)), "485401 000a02 010001 000000")
	isBytes(t, f, plan(0, 10, slot(1, 0, 2), slot(0, 0, 8)), "485401 000a02 010002 000003")
	// By the budgets of the program's own tasks.
	isBytes(t, made(t, "flow f = m(n(x));"), plan(0, 10, slot(1, 0, 0), slot(0, 0, 2)), chainBytes)
	f = made(t, "flow f = k(x, 0 fby f); output o = f deadline 4;")
	isBytes(t, f, plan(20, 10, slot(0, 0, 0), slot(0, 1, 10), slot(0, 2, 20)), "485401 140a03 000000 000109 000209")
	isBytes(t, f, plan(20, 10, slot(0, 0, 3), slot(0, 1, 11), slot(0, 2, 23)), "485401 140a03 000003 000107 00020b")
	isBytes(t, made(t, "flow f = m(y);"), plan(40, 20, slot(0, 0, 45)), "485401 281401 00002d")
}

// P14.1: of each number as few bytes as go.
func TestNumbers(t *testing.T) {
	for _, x := range []struct {
		n     int
		bytes string
	}{
		{4, "04"}, {126, "7e"}, {127, "7f"}, {128, "8001"}, {129, "8101"}, {255, "ff01"}, {256, "8002"}, {300, "ac02"},
		{16382, "fe7f"}, {16383, "ff7f"}, {16384, "808001"}, {16385, "818001"}, {100000, "a08d06"},
	} {
		// A slot more, of a job that comes behind all that valid asks.
		isBytes(t, made(t, chain), plan(0, 10, slot(1, 0, 0), slot(0, 0, 3), slot(1, x.n, 5)), "485401 000a03 010000 000000 01"+x.bytes+"00")
		if x.n < 500 {
			row := sample.Row([]int64{1}, every(500, 0))
			isBytes(t, row, plan(0, 500, slot(0, 0, int64(x.n))), "485401 00f40301 0000"+x.bytes)
		}
	}
}

// P14.1: S, H, how many slots there are, and tasks, at their greatest.
func TestGreatestNumbers(t *testing.T) {
	f := sample.Row([]int64{1}, every(2000, 0))
	f.Inputs = append(f.Inputs, every(500, 2000))
	f.Tells = []api.Tell{{Clock: every(500, 2000), Arg: api.Arg{Src: 1, Ops: []api.Op{{Kind: api.EFby}}}, Deadline: api.MaxTicks}}
	isBytes(t, f, plan(4000, 2000, slot(0, 0, 0), slot(0, 1, 3999), slot(0, 2, 5999)), "485401 a01fd00f03 000000 00019e1f 0002cf0f")
	p := plan(4000, 2000)
	want := "485401 a01fd00fa01f"
	for start := range api.MaxSlots {
		job := 10 + 10*start
		switch start {
		case 0, 2000:
			job = start / 2000
		case api.MaxSlots - 1:
			job = 16384
		}
		p.Slots = append(p.Slots, slot(0, job, int64(start)))
		want += "00" + hex.EncodeToString(binary.AppendUvarint(nil, uint64(job))) + "00"
	}
	p.Slots[api.MaxSlots-1] = slot(0, 2, 4000)
	want = strings.TrimSuffix(want, "0080800100") + "000201"
	isBytes(t, f, p, want)
	p.Slots = append(p.Slots, slot(0, 99999, 4001))
	notEncoded(t, f, p)
	notDecoded(t, f, written(f, p))

	g := sample.Row(slices.Repeat([]int64{1}, api.MaxTasks), slices.Repeat([]api.Clock{every(100, 0)}, api.MaxTasks)...)
	q := plan(0, 100)
	want = "485401 00641e"
	for i := range api.MaxTasks {
		task := api.MaxTasks - 1 - i
		q.Slots = append(q.Slots, slot(task, 0, int64(i)))
		want += hex.EncodeToString([]byte{byte(task), 0, 0})
	}
	isBytes(t, g, q, want)
}

// P14.1: a plan that isn't well has no bytes, in either way.
func TestPlansThatArentWell(t *testing.T) {
	f := made(t, chain)
	first, second := slot(1, 0, 0), slot(0, 0, 3)
	for _, p := range []sched.Plan{
		{},
		plan(0, 10),
		plan(0, 10, first),
		plan(0, 10, second),
		plan(1, 10, first, second),
		plan(0, 9, first, second),
		plan(0, 20, first, second),
		plan(-1, 10, first, second),
		plan(0, 0, first, second),
		plan(0, -10, first, second),
		plan(math.MinInt64, math.MaxInt64, first, second),
		plan(0, 10, second, first),
		plan(0, 10, slot(0, 0, 0), slot(1, 0, 2)),
		plan(0, 10, first, slot(0, 0, 2)),
		plan(0, 10, first, slot(0, 0, 9)),
		plan(0, 10, first, slot(0, 0, 10)),
		plan(0, 10, slot(1, 0, -1), second),
		plan(0, 10, first, slot(2, 0, 3)),
		plan(0, 10, first, slot(-1, 0, 3)),
		plan(0, 10, first, slot(1<<32, 0, 3)),
		plan(0, 10, first, slot(0, 1, 3)),
		plan(0, 10, first, slot(0, -1, 3)),
		plan(0, 10, first, slot(0, 1<<32, 3)),
		plan(0, 10, first, second, slot(1, 100001, 5)),
		plan(0, 10, first, second, slot(2, 0, 5)),
		plan(0, 10, first, second, first),
		plan(0, 10, first, slot(0, 0, math.MaxInt64)),
		plan(0, 10, first, slot(0, 0, math.MinInt64)),
	} {
		notEncoded(t, f, p)
		notDecoded(t, f, written(f, p))
	}
	// One program's plan is not another's.
	p := plan(0, 10, first, second)
	notEncoded(t, api.Flat{}, p)
	notDecoded(t, api.Flat{}, unhex(chainBytes))
	for _, s := range []string{"flow f = m(x); flow g = n(f);", "flow f = n(x);", chain + " output o = f deadline 9;"} {
		notEncoded(t, made(t, s), p)
		notDecoded(t, made(t, s), unhex(chainBytes))
	}
	// A plan of what is no right flat program.
	f.Nodes[0].Budget = 0
	notEncoded(t, f, p)
	notDecoded(t, f, unhex(chainBytes))
}

// P14.1: bytes are refused from the first byte that is missing, or too much.
func TestLengths(t *testing.T) {
	f := made(t, chain)
	b := unhex(chainBytes)
	for n := range b {
		notDecoded(t, f, b[:n])
		notDecoded(t, f, b[n+1:])
		notDecoded(t, f, slices.Delete(slices.Clone(b), n, n+1))
	}
	notDecoded(t, f, nil)
	for more := range 256 {
		notDecoded(t, f, append(slices.Clone(b), byte(more)))
		notDecoded(t, f, append([]byte{byte(more)}, b...))
		notDecoded(t, api.Flat{}, append(unhex("485401000100"), byte(more)))
	}
	notDecoded(t, f, slices.Concat(b, b))
	notDecoded(t, f, slices.Concat(b, unhex("010005")))
	// How many slots there are is told otherwise.
	for count := range 256 {
		if count != 2 {
			c := slices.Clone(b)
			c[5] = byte(count)
			notDecoded(t, f, c)
		}
	}
}

// P14.1: each of the first three bytes is as it should be.
func TestHead(t *testing.T) {
	f := made(t, chain)
	for i := range 3 {
		b := unhex(chainBytes)
		for range 255 {
			b[i]++
			notDecoded(t, f, b)
		}
	}
}

// P14.1: a number in more bytes than it needs is none.
func TestLongNumbers(t *testing.T) {
	for _, s := range []string{chainBytes, "485401 00f40301 0000f303", "485401 000a03 010000 000000 01808001 00", "485401 000100"} {
		f := made(t, chain)
		switch s {
		case "485401 000100":
			f = api.Flat{}
		case "485401 00f40301 0000f303":
			f = sample.Row([]int64{1}, every(500, 0))
		}
		b := unhex(s)
		if _, err := table.Decode(f, b); err != api.OK {
			t.Fatal(s, err)
		}
		for i := 3; i < len(b); i++ {
			if b[i] >= 0x80 {
				continue
			}
			// The last byte of a number.
			for _, more := range []string{"00", "8000", "808000", "80808000", "80808080808080808000", "8080808080808080808000"} {
				c := slices.Clone(b)
				c[i] |= 0x80
				notDecoded(t, f, slices.Insert(c, i+1, unhex(more)...))
			}
		}
	}
}

// P14.1: a number that is too great isn't taken for what is left of it in some bits.
func TestGreatNumbers(t *testing.T) {
	f := made(t, chain)
	b := unhex(chainBytes)
	for i := 3; i < len(b); i++ {
		for power := 7; power < 150; power++ {
			// The number, and two to the power.
			c := []byte{b[i] | 0x80}
			for range power/7 - 1 {
				c = append(c, 0x80)
			}
			c = append(c, 1<<(power%7))
			notDecoded(t, f, slices.Concat(b[:i], c, b[i+1:]))
		}
		for n := range 30 {
			notDecoded(t, f, slices.Concat(b[:i], bytes.Repeat([]byte{0xff}, n), []byte{0x7f}, b[i+1:]))
			notDecoded(t, f, slices.Concat(b[:i], bytes.Repeat([]byte{0xff}, n)))
		}
	}
}

// P14.1: starts that go around come to no plan.
func TestStartsThatGoAround(t *testing.T) {
	f := made(t, chain)
	for _, gap := range []uint64{math.MaxInt64, math.MaxInt64 - 2, 1 << 63, math.MaxUint64, math.MaxUint64 - 1, math.MaxUint64 - 2, 1 << 32, 1<<32 - 3} {
		notDecoded(t, f, binary.AppendUvarint(unhex("485401 000a02 010000 0000"), gap))
		notDecoded(t, f, append(binary.AppendUvarint(unhex("485401 000a02 0100"), gap), 0, 0, 0))
	}
	// m's slot would end at 0 again, were all starts taken modulo 2^64.
	notDecoded(t, f, append(binary.AppendUvarint(unhex("485401 000a02 0100"), math.MaxUint64-2), 0, 0, 3))
}

// P14.1, R1: many slots are told of, and aren't there; or they are, and are too many.
func TestManySlots(t *testing.T) {
	f := made(t, chain)
	for _, count := range []uint64{3, 4000, 4001, 1 << 20, 1<<28 - 1, 1 << 28, 1 << 31, 1 << 32, 1<<63 - 1, 1 << 63, math.MaxUint64} {
		notDecoded(t, f, binary.AppendUvarint(unhex("485401 000a"), count))
		notDecoded(t, f, append(binary.AppendUvarint(unhex("485401 000a"), count), unhex("010000 000000")...))
		notDecoded(t, f, append(binary.AppendUvarint(unhex("485401 000a"), count), make([]byte, 1<<20)...))
	}
}

// P14.2: what is made comes again.
func TestComesAgain(t *testing.T) {
	for _, s := range []string{
		"",
		chain,
		"flow f = m(x); flow g = n(y);",
		"flow f = m(z); flow g = n(x);",
		"flow f = k(x, 0 fby f); output o = f deadline 4;",
		"flow a = n(m(x) *^ 2); output o = a deadline 5;",
		"flow f = k(m(z), n(z)); output o = f deadline 900;",
	} {
		f := made(t, s)
		p, err := sched.Make(f)
		if err != api.OK {
			t.Fatal(s, err)
		}
		isBytes(t, f, p, hex.EncodeToString(written(f, p)))
	}
}

// R1: whatever is handed in.
func TestEndsOfWhateverIsHandedIn(t *testing.T) {
	f := made(t, chain)
	broken := made(t, chain)
	broken.Tasks[0].Clock.Period = 0
	broken.Tasks[1].Node = -1
	great := made(t, chain)
	great.Nodes[0].Budget, great.Nodes[1].Budget = math.MaxInt64, math.MinInt64
	numbers := []int64{math.MinInt64, -1, 0, 1, 3, 10, 100001, 1 << 40, math.MaxInt64}
	for _, a := range numbers {
		for _, b := range numbers {
			for _, g := range []api.Flat{f, broken, great, {}} {
				for _, c := range numbers {
					p := plan(a, b, slot(int(a), int(b), c), slot(int(c), int(a), b))
					notEncoded(t, g, p)
					notDecoded(t, g, written(g, p))
				}
			}
		}
	}
	notDecoded(t, broken, unhex(chainBytes))
	notDecoded(t, great, unhex(chainBytes))
}

// R5: what is handed in is left as it is, its spare room too, and isn't kept; what is answered is new memory.
func TestLeavesWhatIsHandedIn(t *testing.T) {
	f, kept := made(t, chain), made(t, chain)
	room := []api.Slot{slot(1, 0, 0), slot(0, 0, 3), slot(9, 9, 9)}
	p := plan(0, 10, room[:2]...)
	b, err := table.Encode(f, p)
	if err != api.OK || !reflect.DeepEqual(f, kept) || !slices.Equal(room, []api.Slot{slot(1, 0, 0), slot(0, 0, 3), slot(9, 9, 9)}) {
		t.Error("changed", f, room, err)
	}
	roomy := append(unhex(chainBytes), 0xee, 0xee)
	short := roomy[:len(b)]
	q, err := table.Decode(f, short)
	if err != api.OK || !same(q, p) || !reflect.DeepEqual(f, kept) || !bytes.Equal(roomy, append(unhex(chainBytes), 0xee, 0xee)) {
		t.Error("changed", f, q, err, roomy)
	}
	for i := range b {
		b[i], short[i] = 7, 7
	}
	q.Slots[0].Start = 6
	if !same(p, plan(0, 10, slot(1, 0, 0), slot(0, 0, 3))) || !valid.Well(f, p) {
		t.Error("shared", p)
	}
	isBytes(t, f, p, chainBytes)
	if again, _ := table.Decode(f, unhex(chainBytes)); !same(again, p) {
		t.Error("kept from call to call", again)
	}
}
