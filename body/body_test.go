package body_test

import (
	"math"
	"math/big"
	"math/rand"
	"reflect"
	"runtime/debug"
	"slices"
	"strconv"
	"strings"
	"testing"

	"horarium/api"
	"horarium/body"
	"horarium/syntax"
)

// signs are the names of all operators of two numbers.
func signs() []string {
	return []string{"+", "-", "*", "/", "%", "<", "=="}
}

// edges are the numbers near which something goes around, or changes its sign.
func edges() []int64 {
	l := []int64{
		math.MinInt64, math.MinInt64 + 1, math.MinInt64 + 2, math.MinInt64 / 2, math.MinInt64/2 - 1,
		math.MaxInt64, math.MaxInt64 - 1, math.MaxInt64 / 2, math.MaxInt64/2 + 1, 3037000499, 3037000500, -3037000500,
		math.MinInt32, math.MaxInt32, math.MaxUint32, 1 << 32, 1 << 62, 1000000000, -1000000000, 1000000007,
	}
	for n := int64(-11); n <= 11; n++ {
		l = append(l, n)
	}
	return l
}

// around is the number modulo 2^64, from -2^63 on.
func around(n *big.Int) int64 {
	whole := new(big.Int).Lsh(big.NewInt(1), 64)
	half := new(big.Int).Lsh(big.NewInt(1), 63)
	n = new(big.Int).Add(n, half)
	return n.Mod(n, whole).Sub(n, half).Int64()
}

// meant is what the chapter says of two numbers, reckoned with numbers without bounds.
func meant(name string, a, b int64) int64 {
	x, y, z := big.NewInt(a), big.NewInt(b), new(big.Int)
	switch {
	case name == "+":
		z.Add(x, y)
	case name == "-":
		z.Sub(x, y)
	case name == "*":
		z.Mul(x, y)
	case name == "/" && b != 0:
		z.Quo(x, y)
	case name == "%" && b != 0:
		z.Rem(x, y)
	case name == "<" && x.Cmp(y) < 0, name == "==" && x.Cmp(y) == 0:
		z.SetInt64(1)
	}
	return around(z)
}

func opOf(t *testing.T, name string, a, b, want int64) {
	t.Helper()
	if got := body.Op(name, a, b); got != want {
		t.Errorf("%d %s %d: %d; should be %d", a, name, b, got, want)
	}
}

// P5.1
func TestOp(t *testing.T) {
	for _, c := range []struct {
		a    int64
		name string
		b    int64
		want int64
	}{
		{2, "+", 3, 5}, {math.MaxInt64, "+", 1, math.MinInt64}, {math.MinInt64, "+", -1, math.MaxInt64}, {math.MinInt64, "+", math.MinInt64, 0},
		{2, "-", 3, -1}, {3, "-", 2, 1}, {math.MinInt64, "-", 1, math.MaxInt64}, {0, "-", math.MinInt64, math.MinInt64},
		{-2, "*", 3, -6}, {1 << 62, "*", 2, math.MinInt64}, {1 << 62, "*", 4, 0}, {math.MinInt64, "*", -1, math.MinInt64}, {math.MaxInt64, "*", math.MaxInt64, 1},
		{7, "/", 2, 3}, {-7, "/", 2, -3}, {7, "/", -2, -3}, {-7, "/", -2, 3}, {6, "/", 3, 2}, {1, "/", 2, 0}, {-1, "/", 2, 0},
		{7, "/", 0, 0}, {-7, "/", 0, 0}, {0, "/", 0, 0}, {math.MinInt64, "/", 0, 0}, {math.MinInt64, "/", -1, math.MinInt64}, {math.MinInt64, "/", 1, math.MinInt64},
		{7, "%", 2, 1}, {-7, "%", 2, -1}, {7, "%", -2, 1}, {-7, "%", -2, -1}, {6, "%", 3, 0},
		{7, "%", 0, 0}, {-7, "%", 0, 0}, {0, "%", 0, 0}, {math.MinInt64, "%", 0, 0}, {math.MinInt64, "%", -1, 0}, {math.MinInt64, "%", math.MaxInt64, -1},
		{1, "<", 2, 1}, {2, "<", 2, 0}, {3, "<", 2, 0}, {math.MinInt64, "<", math.MaxInt64, 1}, {math.MaxInt64, "<", math.MinInt64, 0}, {-1, "<", 0, 1},
		{1, "==", 1, 1}, {1, "==", 2, 0}, {0, "==", 0, 1}, {math.MinInt64, "==", math.MinInt64, 1}, {math.MinInt64, "==", 0, 0}, {-1, "==", 1, 0},
	} {
		opOf(t, c.name, c.a, c.b, c.want)
	}
}

// P5.1, P5.2: all operators have a value, just the one that is meant, at all edges.
func TestOpAtEdges(t *testing.T) {
	for _, name := range signs() {
		for _, a := range edges() {
			for _, b := range edges() {
				opOf(t, name, a, b, meant(name, a, b))
			}
		}
	}
}

// P5.1: there are no other operators of two numbers.
func TestOpOfNoName(t *testing.T) {
	for _, name := range []string{"", "?", ":", "=", "++", "--", "+ ", " +", "<=", ">", ">=", "!=", "===", "&", "|", "^", "<<", "*^", "/^", "~>", "fby", "a", "\x00", "+-*/%<=="} {
		for _, a := range edges() {
			opOf(t, name, a, 3, 0)
			opOf(t, name, 3, a, 0)
			opOf(t, name, a, a, 0)
		}
	}
}

// nodeOf is the node that the text declares.
func nodeOf(t *testing.T, params, text string) api.Node {
	t.Helper()
	p, at, err := syntax.Parse("node n(" + params + ") budget 1 { " + text + " }")
	if err != api.OK {
		t.Fatalf("%q: %v at %d", text, err, at)
	}
	return p.Nodes[0]
}

func evalOf(t *testing.T, n api.Node, args []int64, want int64) {
	t.Helper()
	if got := body.Eval(n, args); got != want {
		t.Errorf("%s of %v: %d; should be %d", syntax.Print(api.Program{Nodes: []api.Node{n}}), args, got, want)
	}
}

// P5.1, of bodies as they are written.
func TestEval(t *testing.T) {
	for _, c := range []struct {
		text string
		a, b int64
		want int64
	}{
		{"a", 5, 6, 5},
		{"b", 5, 6, 6},
		{"17", 5, 6, 17},
		{"1000000000", 0, 0, 1000000000},
		{"-17", 5, 6, -17},
		{"-a", math.MinInt64, 0, math.MinInt64},
		{"a + b", 5, 6, 11},
		{"a - b", 5, 6, -1},
		{"b - a", 5, 6, 1},
		{"a - b - 1", 5, 6, -2},
		{"a - (b - 1)", 5, 6, 0},
		{"a * b", 5, 6, 30},
		{"a * b", math.MaxInt64, 2, -2},
		{"a / b", 20, 6, 3},
		{"b / a", 20, 6, 0},
		{"a / b", -20, 6, -3},
		{"a / b", 7, 0, 0},
		{"7 / 0", 5, 6, 0},
		{"a / b", math.MinInt64, -1, math.MinInt64},
		{"a % b", 20, 6, 2},
		{"a % b", -20, 6, -2},
		{"a % b", 20, 0, 0},
		{"a % b", math.MinInt64, -1, 0},
		{"a / b * b + a % b", -20, 7, -20},
		{"a < b", 5, 6, 1},
		{"b < a", 5, 6, 0},
		{"a < b", 6, 6, 0},
		{"a == b", 6, 6, 1},
		{"a == b", 6, 5, 0},
		{"a + a * b", 5, 6, 35},
		{"(a + a) * b", 5, 6, 60},
		{"a ? 3 : 4", 1, 0, 3},
		{"a ? 3 : 4", 0, 0, 4},
		{"a ? 3 : 4", -1, 0, 3},
		{"a ? 3 : 4", math.MinInt64, 0, 3},
		{"a ? 3 : 4", 1 << 32, 0, 3},
		{"a < b ? a : b", 5, 6, 5},
		{"a < b ? a : b", 7, 6, 6},
		{"a ? b : 7 / a", 0, 6, 0},
		{"a ? 1 : b ? 2 : 3", 0, 1, 2},
		{"a ? 1 : b ? 2 : 3", 0, 0, 3},
		{"a ? b ? 1 : 2 : 3", 1, 0, 2},
		{"(a ? 0 : b) ? 4 : 5", 1, 1, 5},
		{"10 * (a == 1 ? b : 0 - b) + 1", 1, 6, 61},
		{"10 * (a == 1 ? b : 0 - b) + 1", 2, 6, -59},
		{"a < b ? a * b - 1 : (a % b == 2) + b / 0", 2, 5, 9},
		{"a < b ? a * b - 1 : (a % b == 2) + b / 0", 5, 3, 1},
	} {
		evalOf(t, nodeOf(t, "a, b", c.text), []int64{c.a, c.b}, c.want)
	}
}

func param(name string) api.Expr {
	return api.Expr{Kind: api.EParam, Name: name}
}

func number(n int64) api.Expr {
	return api.Expr{Kind: api.EConst, N: n}
}

func op(name string, args ...api.Expr) api.Expr {
	return api.Expr{Kind: api.EOp, Name: name, Args: args}
}

// P5.1: the i-th argument for the i-th parameter, of parameters of one name the first one's, 0 for one that isn't there.
func TestEvalParams(t *testing.T) {
	six := "a, b, c, d, e, f"
	for i, name := range strings.Split(six, ", ") {
		evalOf(t, nodeOf(t, six, name), []int64{10, 11, 12, 13, 14, 15}, int64(10+i))
	}
	all := nodeOf(t, six, "a + 10 * (b + 10 * (c + 10 * (d + 10 * (e + 10 * f))))")
	evalOf(t, all, []int64{1, 2, 3, 4, 5, 6}, 654321)
	evalOf(t, all, []int64{1, 2, 3}, 321)
	evalOf(t, all, []int64{1, 2, 3, 4, 5, 6, 7, 8}, 654321)
	evalOf(t, all, nil, 0)
	evalOf(t, nodeOf(t, "a", "a + 1"), []int64{}, 1)
	evalOf(t, nodeOf(t, "a", "b + 1"), []int64{7}, 1)
	evalOf(t, nodeOf(t, "a", "aa"), []int64{7}, 0)
	evalOf(t, nodeOf(t, "ab", "a"), []int64{7}, 0)
	evalOf(t, nodeOf(t, "a, a", "a"), []int64{7, 8}, 7)
	evalOf(t, nodeOf(t, "a, a", "a"), []int64{0, 8}, 0)
	evalOf(t, nodeOf(t, "b, a, a, b", "a * 10 + b"), []int64{1, 2, 3, 4}, 21)
	evalOf(t, nodeOf(t, "b, a, a, c", "a * 100 + b * 10 + c"), []int64{1, 2, 3}, 210)
	evalOf(t, api.Node{Body: param("a")}, []int64{7}, 0)
	evalOf(t, api.Node{Params: []string{""}, Body: param("")}, []int64{7}, 7)
	evalOf(t, api.Node{Params: []string{"+"}, Body: op("+", param("+"), param("+"))}, []int64{7}, 14)
}

// P5.1: what isn't the body says nothing of its value.
func TestEvalOfTheBodyAlone(t *testing.T) {
	n := nodeOf(t, "a", "a + 1")
	n.Name, n.Budget, n.At = "", -1, -1
	n.Body.At, n.Body.N, n.Body.D = -5, 77, 78
	n.Body.Args[0].N, n.Body.Args[1].Name, n.Body.Args[1].D = 79, "a", 80
	evalOf(t, n, []int64{7}, 8)
	evalOf(t, api.Node{Body: number(math.MinInt64)}, nil, math.MinInt64)
	evalOf(t, api.Node{Body: number(math.MaxInt64)}, nil, math.MaxInt64)
}

// R1: what can't be read has a value, too, in which nothing stands for what isn't there.
func TestEvalOfWrongBodies(t *testing.T) {
	a, b, c := param("a"), param("b"), param("c")
	for _, x := range []struct {
		e    api.Expr
		want int64
	}{
		{api.Expr{}, 0},
		{op(""), 0}, {op("", a, b), 0}, {op("x", a, b), 0}, {op("++", a, b), 0},
		{op("+"), 0}, {op("+", a), 7}, {op("-", a), 7}, {op("*", a), 0}, {op("/", a), 0}, {op("%", a), 0}, {op("<", a), 0}, {op("=="), 1},
		{op("-", a, b, c), -2}, {op("-", api.Expr{}, b), -9},
		{op("?"), 0}, {op("?", a), 0}, {op("?", a, b), 9}, {op("?", number(0), b), 0}, {op("?", a, b, c, a), 9}, {op("?", number(0), b, c, a), 11},
		{op("+", a, op("+")), 7}, {op("?", op("?"), a, op("+", b)), 9},
	} {
		evalOf(t, api.Node{Params: []string{"a", "b", "c"}, Body: x.e}, []int64{7, 9, 11}, x.want)
	}
	for kind := -2; kind <= 20; kind++ {
		if kind == api.EParam || kind == api.EConst || kind == api.EOp {
			continue
		}
		wrong := api.Expr{Kind: kind, Name: "+", N: 5, D: 6, Args: []api.Expr{a, b}}
		evalOf(t, api.Node{Params: []string{"a", "b"}, Body: wrong}, []int64{7, 9}, 0)
		evalOf(t, api.Node{Params: []string{"a", "b"}, Body: op("+", wrong, a)}, []int64{7, 9}, 7)
	}
}

// madeOf makes a body at random, of names some of which may be no parameters.
func madeOf(r *rand.Rand, deep int, names []string) api.Expr {
	switch choice := r.Intn(8); {
	case deep == 0 || choice == 0:
		if r.Intn(3) == 0 {
			l := edges()
			return number(l[r.Intn(len(l))])
		}
		return param(names[r.Intn(len(names))])
	case choice == 1:
		return op("?", madeOf(r, deep-1, names), madeOf(r, deep-1, names), madeOf(r, deep-1, names))
	}
	l := signs()
	return op(l[r.Intn(len(l))], madeOf(r, deep-1, names), madeOf(r, deep-1, names))
}

// meantBody is what the chapter says of a body.
func meantBody(e api.Expr, params []string, args []int64) int64 {
	switch {
	case e.Kind == api.EConst:
		return e.N
	case e.Kind == api.EParam:
		i := slices.Index(params, e.Name)
		if i < 0 || i >= len(args) {
			return 0
		}
		return args[i]
	}
	var values []int64
	for _, a := range e.Args {
		values = append(values, meantBody(a, params, args))
	}
	if e.Name != "?" {
		return meant(e.Name, values[0], values[1])
	}
	if values[0] != 0 {
		return values[1]
	}
	return values[2]
}

// P5.1, P5.2
func TestEvalOfRandomBodies(t *testing.T) {
	r := rand.New(rand.NewSource(5))
	l := edges()
	for range 20000 {
		var params []string
		var args []int64
		for range r.Intn(6) {
			params = append(params, string(rune('a'+r.Intn(5))))
		}
		for range r.Intn(7) {
			args = append(args, l[r.Intn(len(l))])
		}
		n := api.Node{Params: params, Body: madeOf(r, r.Intn(7), []string{"a", "b", "c", "d", "e"})}
		evalOf(t, n, args, meantBody(n.Body, params, args))
	}
}

// placed tells names and their places.
func placed(l []api.Expr) string {
	var pieces []string
	for _, e := range l {
		pieces = append(pieces, e.Name+strconv.Itoa(e.At))
	}
	return strings.Join(pieces, " ")
}

// P5.1: parameters come from the left, each as often as it stands, with its place.
func TestNames(t *testing.T) {
	// Places are told from where the body's text begins.
	begin := len("node n(a, b) budget 1 { ")
	for text, want := range map[string]string{
		"1":                             "",
		"1 + 2 * 3":                     "",
		"a":                             "a0",
		"(a)":                           "a1",
		"-a":                            "a1",
		"b + a":                         "b0 a4",
		"a + a":                         "a0 a4",
		"a + b * c":                     "a0 b4 c8",
		"(c - b) * a":                   "c1 b5 a10",
		"a ? b : c":                     "a0 b4 c8",
		"1 ? b : 2 ? c : a":             "b4 c12 a16",
		"a < b ? c - 1 : b / a":         "a0 b4 c8 b16 a20",
		"a == zz % (b < c)":             "a0 zz5 b11 c15",
		"((a + b) + (b + c)) + (c + a)": "a2 b6 b12 c16 c23 a27",
	} {
		l := body.Names(nodeOf(t, "a, b", text).Body)
		for i, e := range l {
			if want := (api.Expr{Kind: api.EParam, Name: e.Name, At: e.At}); !reflect.DeepEqual(e, want) {
				t.Errorf("%s: %v; should be %v", text, e, want)
			}
			l[i].At -= begin
		}
		if got := placed(l); got != want {
			t.Errorf("%s: %s; should be %s", text, got, want)
		}
	}
}

// P5.1: numbers that stand in a parameter are told with it; what isn't one isn't told, whatever it holds.
func TestNamesAsTheyStand(t *testing.T) {
	odd := api.Expr{Kind: api.EParam, Name: "", N: -1, D: math.MaxInt64, At: -7}
	for _, e := range []api.Expr{odd, op("+", number(1), odd), op("", odd), op("?", odd), op("*", number(1), number(2), number(3), odd), {Args: []api.Expr{odd}}} {
		if got := body.Names(e); !reflect.DeepEqual(got, []api.Expr{odd}) {
			t.Errorf("%v: %v", e, got)
		}
	}
	for kind := -2; kind <= 20; kind++ {
		if kind == api.EParam {
			continue
		}
		e := api.Expr{Kind: kind, Name: "a", N: 1, D: 1, At: 1}
		if got := body.Names(e); len(got) > 0 {
			t.Errorf("%v: %v", e, got)
		}
		if got := body.Names(op("+", e, e)); len(got) > 0 {
			t.Errorf("%v: %v", e, got)
		}
	}
}

// numbered gives each expression a place of its own, and tells the parameters from the left.
func numbered(e *api.Expr, at *int) []api.Expr {
	*at++
	e.At = *at
	if e.Kind == api.EParam {
		return []api.Expr{*e}
	}
	var l []api.Expr
	for i := range e.Args {
		l = append(l, numbered(&e.Args[i], at)...)
	}
	return l
}

// P5.1
func TestNamesOfRandomBodies(t *testing.T) {
	r := rand.New(rand.NewSource(6))
	for range 5000 {
		e := madeOf(r, r.Intn(7), []string{"a", "b", "c"})
		at := 0
		want := numbered(&e, &at)
		if got := body.Names(e); len(got)+len(want) > 0 && !reflect.DeepEqual(got, want) {
			t.Fatalf("%v: %v; should be %v", e, got, want)
		}
	}
}

// copied is the expression in memory of its own.
func copied(e api.Expr) api.Expr {
	e.Args = slices.Clone(e.Args)
	for i := range e.Args {
		e.Args[i] = copied(e.Args[i])
	}
	return e
}

// R5: what is handed in is left as it is, its spare room too, and what is answered is new.
func TestLeavesWhatIsHandedIn(t *testing.T) {
	n := nodeOf(t, "a, b, c", "a < b ? a * (b - 1) : c % 7")
	n.Params = n.Params[:2]
	n.Body.Args[1].Args = append(n.Body.Args[1].Args, param("spare"), param("spare"))[:2]
	// A parameter that holds something isn't one of the language; what it holds isn't handed out.
	n.Body.Args[2].Args[0].Args = []api.Expr{param("x"), param("y")}[:1]
	args := []int64{5, 3, 99}
	whole := copied(n.Body)
	params, spare := slices.Clone(n.Params[:3]), copied(op("", n.Body.Args[1].Args[:4]...))
	for range 2 {
		body.Eval(n, args[:2])
		names := body.Names(n.Body)
		for i := range names {
			names[i].Name, names[i].At = "changed", -1
			for j := range names[i].Args {
				names[i].Args[j] = param("changed")
			}
			_ = append(names[i].Args, param("changed"))
		}
		_ = append(names, param("changed"))
	}
	if !reflect.DeepEqual(n.Body, whole) || !slices.Equal(n.Params[:3], params) || !reflect.DeepEqual(op("", n.Body.Args[1].Args[:4]...), spare) || !slices.Equal(args, []int64{5, 3, 99}) {
		t.Error("changed", n, args)
	}
	if n.Body.Args[2].Args[0].Args[:2][1].Name != "y" {
		t.Error("spare room changed")
	}
}

// R5, R7: what was answered stays, and no call hangs on one ahead of it.
func TestCallsByThemselves(t *testing.T) {
	n, m := nodeOf(t, "a", "a + b"), nodeOf(t, "b", "a + b")
	first := body.Names(n.Body)
	kept := placed(first)
	for i := range int64(3) {
		evalOf(t, n, []int64{i}, i)
		evalOf(t, m, []int64{-i}, -i)
		body.Names(nodeOf(t, "a", "c * c * c").Body)
	}
	if placed(first) != kept {
		t.Error(first)
	}
}

// bodyOf asks the value of a body of one parameter, a.
func bodyOf(t *testing.T, e api.Expr, a, want int64) {
	t.Helper()
	if got := body.Eval(api.Node{Params: []string{"a"}, Body: e}, []int64{a}); got != want {
		t.Errorf("%d; should be %d", got, want)
	}
}

// R1: bodies deeper than calls within calls have room for.
func TestDeepBodies(t *testing.T) {
	const deep = 300000
	// With all the room that there is by itself, it would take bodies of gigabytes.
	defer debug.SetMaxStack(debug.SetMaxStack(1 << 23))
	e, right := param("a"), param("a")
	for i := range deep {
		e = op("-", e, number(1))
		if i%2 == 0 {
			right = op("?", number(1), right, param("b"))
		} else {
			right = op("+", number(2), right)
		}
	}
	bodyOf(t, e, 7, 7-deep)
	bodyOf(t, right, 7, 7+deep)
	if l := body.Names(e); placed(l) != "a0" {
		t.Error(len(l))
	}
	if l := body.Names(right); len(l) != deep/2+1 || l[0].Name != "a" || l[1].Name != "b" || l[deep/2].Name != "b" {
		t.Error(len(l))
	}
}

// R1: what stands in several lists of arguments is no more work than what stands in one.
func TestSharedBodies(t *testing.T) {
	shared := func(e api.Expr, times int, name string) api.Expr {
		for range times {
			args := []api.Expr{e}
			e = op(name, op("+", args...), op("+", args...))
		}
		return e
	}
	bodyOf(t, shared(param("a"), 62, "+"), 1, 1<<62)
	bodyOf(t, shared(param("a"), 10000, "+"), 3, 0)
	bodyOf(t, shared(param("a"), 1000, "=="), 3, 1)
	if l := body.Names(shared(number(1), 10000, "+")); len(l) > 0 {
		t.Error(l)
	}
	l := body.Names(shared(op("+", param("a"), param("b")), 10, "+"))
	if len(l) != 2048 {
		t.Fatal(len(l))
	}
	for i, e := range l {
		if e.Name != string(rune('a'+i%2)) {
			t.Fatal(i, e)
		}
	}
}

// endless is an expression that holds itself.
func endless(width int, name string) api.Expr {
	l := make([]api.Expr, width)
	for i := range l {
		l[i] = op(name, l...)
	}
	for i := range l {
		l[i].Args = l
	}
	return l[0]
}

// R1: what holds itself has no value and no last name; the calls end all the same.
func TestEndlessBodies(t *testing.T) {
	for _, name := range append(signs(), "?", "") {
		for _, width := range []int{1, 2, 3, 6} {
			e := endless(width, name)
			first := body.Eval(api.Node{Body: e}, nil)
			if again := body.Eval(api.Node{Body: e}, nil); again != first {
				t.Error(name, width, first, again)
			}
			if l := body.Names(e); len(l) > 0 {
				t.Error(name, width, l)
			}
			e.Args[0] = param("a")
			body.Eval(api.Node{Params: []string{"a"}, Body: e}, []int64{1})
			body.Names(e)
		}
	}
	// What isn't asked for doesn't matter.
	bodyOf(t, op("?", number(1), number(5), endless(2, "+")), 0, 5)
}

// R1: long lists of parameters and arguments.
func TestLongLists(t *testing.T) {
	const many = 100000
	var n api.Node
	var args []int64
	sum := number(0)
	want := int64(0)
	for i := range many {
		name := "p" + strconv.Itoa(i)
		n.Params = append(n.Params, name)
		args = append(args, int64(i*i))
		sum = op("+", sum, param(name))
		want += int64(i * i)
	}
	n.Body = sum
	if got := body.Eval(n, args); got != want {
		t.Error(got, want)
	}
	if l := body.Names(sum); len(l) != many || l[0].Name != "p0" || l[many-1].Name != "p"+strconv.Itoa(many-1) {
		t.Error(len(l))
	}
}
