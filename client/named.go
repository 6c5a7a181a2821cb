package client

import (
	"withy/api"
	"withy/arena"
	"withy/field"
	"withy/head"
	"withy/mem"
	"withy/op"
	"withy/plan"
)

// whatever is what a Lay expects that asks nothing of the field.
const whatever = -2

// change is what a field is to name.
type change struct {
	node, i   int
	x, expect int
	swaps     bool // does the call answer whether it was done?
}

// toField does what goes to a field of a node, once the node's header says that it has the field. One may say more fields than a body has words: only these are any.
func (k *Client) toField(call api.Call) {
	node := k.Holds(call.H)
	var arity int
	k.does(once(func(m *mem.Mem) {
		h, _ := head.Unpack(m.Load(plan.Header(k.c, node)))
		arity = h.Arity
	}), func() {
		switch {
		case call.N >= arity || plan.Body(k.c, node, call.N) < 0:
			k.ends(refusal(api.ErrField))
		case op.Writes(call.Kind):
			k.writes(call, node)
		default:
			k.loads(node, call.N)
		}
	})
}

// loads does a Load.
func (k *Client) loads(node, i int) {
	read := field.NewRead(k.c, node, i, k.b)
	k.does(read, func() {
		switch {
		case read.Val == none:
			k.endsBy(read, api.Answer{})
		case !k.table.Room():
			k.endsBy(read, refusal(api.ErrRoom))
		default:
			k.takes(read.Val, func(a api.Answer) { k.endsBy(read, a) })
		}
	})
}

// endsBy has the client leave, and the call be answered: it took effect when a field was read.
func (k *Client) endsBy(read *field.Read, a api.Answer) {
	k.endsAs(outcome{a, read.Point, true})
}

// writes does a Link, an Unlink or a Swap.
func (k *Client) writes(call api.Call, node int) {
	f := change{node: node, i: call.N, x: none, expect: whatever}
	switch call.Kind {
	case api.Link:
		f.x = k.Holds(call.X)
	case api.Swap:
		f.x, f.expect, f.swaps = k.Holds(call.X), k.Holds(call.Y), true
		k.compares(f)
		return
	}
	k.records(f, k.ends)
}

// compares reads the field first, so that no record is made where another one is found than what is expected, and so that there is a point at which that was there, should no slot be.
func (k *Client) compares(f change) {
	read := field.NewRead(k.c, f.node, f.i, k.b)
	k.does(read, func() {
		ends := func(a api.Answer) { k.endsBy(read, a) }
		if read.Val != f.expect {
			ends(api.Answer{})
			return
		}
		k.records(f, ends)
	})
}

// records makes the record, and lays it. Without a slot for it the call ends as it is told.
func (k *Client) records(f change, ends func(a api.Answer)) {
	rec := arena.NewMake(k.c, api.Record, 0, k.e, []uint64{naming(f.x)})
	k.does(rec, func() {
		if rec.Full {
			ends(refusal(api.ErrFull))
			return
		}
		k.lays(f, rec.Slot)
	})
}

// lays lays a record, which comes ahead of all that reads it.
func (k *Client) lays(f change, rec int) {
	lay := field.NewLay(k.c, f.node, f.i, rec, f.expect, k.e, k.b)
	k.does(lay, func() {
		k.endsAs(outcome{api.Answer{Yes: f.swaps && lay.Laid}, lay.Point, !lay.Laid})
	})
}
