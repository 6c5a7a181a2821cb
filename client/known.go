package client

import (
	"withy/api"
	"withy/op"
)

// known is what a call is answered at once, where what the client knows says it.
func (k *Client) known(call api.Call) (api.Answer, bool) {
	if err := k.refused(call); err != api.OK {
		return refusal(err), true
	}
	if call.Kind == api.Same {
		return api.Answer{Yes: k.Holds(call.H) == k.Holds(call.X)}, true
	}
	return api.Answer{}, false
}

// refused is the error that what the client knows says of a call.
func (k *Client) refused(call api.Call) api.Errno {
	switch {
	case call.Kind < api.New || call.Kind > api.Close:
		return api.ErrOp
	case call.Kind == api.New:
		return k.refusedNew(call.N)
	case op.Walk(call.Kind):
		return k.refusedWalk(call)
	case !k.holdsAll(call):
		return api.ErrHandle
	case call.Kind == api.Open && k.walk.Walk != nil:
		return api.ErrOpen
	}
	return api.OK
}

// refusedNew is a New's.
func (k *Client) refusedNew(arity int) api.Errno {
	switch {
	case arity < 0 || arity > k.c.Arity:
		return api.ErrArg
	case !k.table.Room():
		return api.ErrRoom
	}
	return api.OK
}

// refusedWalk is a Next's or a Close's. Without a walk no handle is its own, 0 neither.
func (k *Client) refusedWalk(call api.Call) api.Errno {
	switch {
	case k.walk.Walk == nil || call.H != k.walk.handle:
		return api.ErrDone
	case call.Kind == api.Close:
		return api.OK
	case k.walk.Left() == 0:
		return api.ErrDone
	case !k.table.Room():
		return api.ErrRoom
	}
	return api.OK
}

// holdsAll tells whether the client holds all that a call names. Only a Swap may name none, by a 0.
func (k *Client) holdsAll(call api.Call) bool {
	holds := func(h uint64) bool { return k.Holds(h) != none }
	switch call.Kind {
	case api.Link, api.Same:
		return holds(call.H) && holds(call.X)
	case api.Swap:
		return holds(call.H) && (call.X == 0 || holds(call.X)) && (call.Y == 0 || holds(call.Y))
	}
	return holds(call.H)
}
