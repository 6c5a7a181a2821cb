package model_test

import (
	"testing"

	"withy/api"
	"withy/op"
)

// Chapters 16 and 17: programs of two clients, whose operations go by what was answered to them, and to one another, or to nobody yet.
func TestPrograms(t *testing.T) {
	b := newBench(t, config(1, 2, 4))
	own := func(i int) api.Arg { return api.Arg{Of: i, Client: -1} }
	told := make([][]uint64, 2)
	for _, x := range []struct {
		who  int
		o    api.Op
		a    api.Answer
		full bool
	}{
		{0, api.Op{Kind: api.New, N: 1, H: own(0)}, gives(5), true},
		{0, api.Op{Kind: api.Link, H: own(0), X: own(0)}, ok, true},
		{0, api.Op{Kind: api.Load, H: own(1)}, only(api.ErrHandle), false},
		{0, api.Op{Kind: api.Load, H: own(0)}, gives(6), false},
		{1, api.Op{Kind: api.Same, H: own(0), X: own(0)}, only(api.ErrHandle), false},
		{1, api.Op{Kind: api.Load, H: api.Arg{Of: 0, Client: 0}}, only(api.ErrHandle), false},
		{0, api.Op{Kind: api.Same, H: own(0), X: api.Arg{Of: 3, Client: 0}}, yes, false},
		{0, api.Op{Kind: api.Open, H: own(3)}, gives(9), false},
		{0, api.Op{Kind: api.Swap, H: own(3), X: own(9), Y: own(0)}, yes, true},
		{0, api.Op{Kind: api.Next, H: own(5)}, gives(7), false},
		{0, api.Op{Kind: api.Close, H: api.Arg{Of: -1, Raw: 9}}, ok, false},
		{0, api.Op{Kind: 11, H: own(0)}, only(api.ErrOp), false},
	} {
		b.does(x.who, op.Call(x.o, x.who, told), x.a, x.full)
		told[x.who] = append(told[x.who], x.a.H)
	}
	b.held(0, 3)
	b.held(1, 0)
	b.node(0, 7, 0)
	b.fields(0, none)
}
