package op_test

import (
	"math"
	"slices"
	"testing"

	"withy/api"
	"withy/op"
)

// raw is a raw number.
func raw(v uint64) api.Arg {
	return api.Arg{Of: -1, Raw: v}
}

// of is what an operation of a client answered; of the client itself, if who is below 0.
func of(who, i int) api.Arg {
	return api.Arg{Of: i, Client: who}
}

// told is what was answered to three clients, of whom the second one was answered nothing yet, and a fourth one.
func told() [][]uint64 {
	return [][]uint64{{5, 7, 0, 1<<64 - 1}, {}, {11}, nil}
}

// values holds what an argument is against what it should be.
func values(t *testing.T, a api.Arg, self int, l [][]uint64, want uint64) {
	t.Helper()
	if got := op.Value(a, self, l); got != want {
		t.Errorf("Value(%+v, %d, %v): %d, want %d", a, self, l, got, want)
	}
}

// calls holds what an operation comes to against what it should.
func calls(t *testing.T, o api.Op, self int, l [][]uint64, want api.Call) {
	t.Helper()
	if got := op.Call(o, self, l); got != want {
		t.Errorf("Call(%+v, %d, %v): %+v, want %+v", o, self, l, got, want)
	}
}

// beyond are numbers of which there is no thing, where there are n, counted from 0.
func beyond(n int) []int {
	return []int{n, n + 1, n + 2, 63, 64, 1 << 31, 1 << 32, 1<<32 + 1, math.MaxInt - 1, math.MaxInt}
}

// negative are numbers below 0.
func negative() []int {
	return []int{-1, -2, -64, -1 << 31, -1<<32 + 1, -1 << 32, math.MinInt + 1, math.MinInt}
}

// kindsThatAreNone are numbers of no kind.
func kindsThatAreNone() []int {
	return append(append(negative(), 0), beyond(11)...)
}

// P16.1, P16.2: the document's examples.
func TestExamples(t *testing.T) {
	values(t, api.Arg{Of: 1, Client: -1}, 0, [][]uint64{{5, 7}}, 7)
	calls(t, api.Op{Kind: api.Release, N: 3, H: raw(9), X: raw(4)}, 0, nil, api.Call{Kind: api.Release, N: 3, H: 9})
}

// P16.1: a raw number is itself, whoever asks, whatever was answered, and whichever client stands beside it.
func TestRawValues(t *testing.T) {
	for _, v := range []uint64{0, 1, 5, 1 << 63, math.MaxUint64} {
		for _, i := range negative() {
			for _, who := range []int{math.MinInt, -1, 0, 1, 3, 4, math.MaxInt} {
				for _, self := range []int{math.MinInt, -1, 0, 2, 9, math.MaxInt} {
					values(t, api.Arg{Of: i, Client: who, Raw: v}, self, told(), v)
					values(t, api.Arg{Of: i, Client: who, Raw: v}, self, nil, v)
				}
			}
		}
	}
}

// P16.1: what a client was answered, by whomever it is asked; its own, where the client is below 0; a raw number beside it is passed over.
func TestToldValues(t *testing.T) {
	for who, l := range told() {
		for i, want := range l {
			for _, v := range []uint64{0, 1, 99, math.MaxUint64} {
				for self := -1; self < 6; self++ {
					values(t, api.Arg{Of: i, Client: who, Raw: v}, self, told(), want)
				}
				for _, own := range negative() {
					values(t, api.Arg{Of: i, Client: own, Raw: v}, who, told(), want)
				}
			}
		}
	}
}

// P16.1: 0 of what hasn't answered yet, and of what answered no handle.
func TestNotToldYet(t *testing.T) {
	for who, l := range told() {
		for _, i := range beyond(len(l)) {
			values(t, api.Arg{Of: i, Client: who, Raw: 3}, 0, told(), 0)
			values(t, api.Arg{Of: i, Client: -1, Raw: 3}, who, told(), 0)
		}
	}
	values(t, api.Arg{Of: 2, Client: 0, Raw: 3}, 1, told(), 0)
	values(t, api.Arg{Of: 0, Client: 1, Raw: 3}, 0, told(), 0)
}

// P16.1: 0 of clients that there are not, and where nobody was told anything; a client that there is not isn't the one that asks.
func TestNoClients(t *testing.T) {
	for _, i := range []int{0, 1, 3, math.MaxInt} {
		for _, who := range beyond(4) {
			values(t, api.Arg{Of: i, Client: who, Raw: 3}, 0, told(), 0)
			values(t, api.Arg{Of: i, Client: -1, Raw: 3}, who, told(), 0)
			values(t, api.Arg{Of: i, Client: who, Raw: 3}, 0, nil, 0)
		}
		for _, self := range negative() {
			values(t, api.Arg{Of: i, Client: -1, Raw: 3}, self, told(), 0)
			values(t, api.Arg{Of: i, Client: math.MinInt, Raw: 3}, self, told(), 0)
		}
		for _, l := range [][][]uint64{nil, {}, {nil}, {{}}, {nil, {}}} {
			for who := -2; who < 3; who++ {
				values(t, api.Arg{Of: i, Client: who, Raw: 3}, 0, l, 0)
				values(t, api.Arg{Of: i, Client: who, Raw: 3}, 1, l, 0)
			}
		}
	}
}

// operands are which arguments a kind has, as the document lists them.
type operands struct {
	kind    int
	h, x, y bool
}

// kinds are all that there are.
func kinds() []operands {
	return []operands{
		{api.New, false, false, false},
		{api.Load, true, false, false},
		{api.Link, true, true, false},
		{api.Unlink, true, false, false},
		{api.Swap, true, true, true},
		{api.Release, true, false, false},
		{api.Same, true, true, false},
		{api.Open, true, false, false},
		{api.Next, true, false, false},
		{api.Close, true, false, false},
	}
}

// wanted is the call of a kind whose arguments are these, as far as it has them.
func wanted(k operands, n int, h, x, y uint64) api.Call {
	call := api.Call{Kind: k.kind, N: n}
	if k.h {
		call.H = h
	}
	if k.x {
		call.X = x
	}
	if k.y {
		call.Y = y
	}
	return call
}

// P16.2: each kind has its own arguments, raw ones, told to the client itself, told to another one, and not told; all else is 0; N is as it was.
func TestCalls(t *testing.T) {
	args := []struct {
		a api.Arg
		v uint64
	}{{raw(0), 0}, {raw(101), 101}, {raw(math.MaxUint64), math.MaxUint64}, {of(-1, 1), 7}, {of(0, 0), 5}, {of(2, 0), 11}, {of(-1, 2), 0}, {of(-1, 9), 0}, {of(1, 0), 0}, {of(8, 0), 0}}
	for _, k := range kinds() {
		for _, n := range []int{math.MinInt, -1, 0, 1, 8, 9, math.MaxInt} {
			for _, h := range args {
				for _, x := range args {
					for _, y := range args {
						o := api.Op{Kind: k.kind, N: n, H: h.a, X: x.a, Y: y.a}
						calls(t, o, 0, told(), wanted(k, n, h.v, x.v, y.v))
					}
				}
			}
		}
	}
}

// P16.2: a call of whoever has it takes what that one was told.
func TestCallsOfEachClient(t *testing.T) {
	l := [][]uint64{{1, 2, 3}, {4, 5, 6}, {7, 8, 9}}
	for _, k := range kinds() {
		for self := range l {
			o := api.Op{Kind: k.kind, N: 2, H: of(-1, 0), X: of(-1, 1), Y: of(-1, 2)}
			calls(t, o, self, l, wanted(k, 2, l[self][0], l[self][1], l[self][2]))
			o = api.Op{Kind: k.kind, N: 2, H: of(2, 0), X: of(1, 1), Y: of(0, 2)}
			calls(t, o, self, l, wanted(k, 2, 7, 5, 3))
		}
		for _, self := range append(negative(), beyond(3)...) {
			o := api.Op{Kind: k.kind, N: 2, H: of(-1, 0), X: of(-1, 1), Y: raw(6)}
			calls(t, o, self, l, wanted(k, 2, 0, 0, 6))
		}
		for _, none := range [][][]uint64{nil, {}, {nil}} {
			o := api.Op{Kind: k.kind, N: 2, H: of(-1, 0), X: raw(8), Y: of(0, 0)}
			calls(t, o, 0, none, wanted(k, 2, 0, 8, 0))
		}
	}
}

// P16.2: of a kind that is none all is 0, but the Kind.
func TestNoKinds(t *testing.T) {
	for _, kind := range kindsThatAreNone() {
		o := api.Op{Kind: kind, N: 4, H: raw(1), X: of(0, 0), Y: of(-1, 1)}
		calls(t, o, 0, told(), api.Call{Kind: kind})
		calls(t, api.Op{Kind: kind}, 0, nil, api.Call{Kind: kind})
	}
}

// P16.3: which kinds go on with a walk, or end it, and which write a field.
func TestWalkAndWrites(t *testing.T) {
	walk := []int{9, 10}
	writes := []int{3, 4, 5}
	for _, kind := range append(kindsThatAreNone(), 1, 2, 3, 4, 5, 6, 7, 8, 9, 10) {
		if got := op.Walk(kind); got != slices.Contains(walk, kind) {
			t.Errorf("Walk(%d): %v", kind, got)
		}
		if got := op.Writes(kind); got != slices.Contains(writes, kind) {
			t.Errorf("Writes(%d): %v", kind, got)
		}
	}
}

// Rule 4: what was told stays as it is, the spare room of it, too.
func TestToldStays(t *testing.T) {
	row := []uint64{5, 7, 9, 13}
	l := [][]uint64{row[:2], row[3:4:4], nil}[:2]
	for _, k := range append(kinds(), operands{kind: 11}) {
		for i := -1; i < 5; i++ {
			for who := -1; who < 4; who++ {
				a := of(who, i)
				op.Value(a, 1, l)
				op.Call(api.Op{Kind: k.kind, N: 1, H: a, X: a, Y: a}, 0, l)
			}
		}
	}
	values(t, of(0, 2), 0, l, 0)
	values(t, of(2, 0), 0, l, 0)
	if !slices.Equal(row, []uint64{5, 7, 9, 13}) || len(l) != 2 || len(l[0]) != 2 || len(l[1]) != 1 || l[:3][2] != nil {
		t.Errorf("told: %v, %v", row, l[:3])
	}
}
