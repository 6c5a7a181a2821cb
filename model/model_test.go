package model_test

import (
	"math"
	"testing"

	"withy/api"
)

// P17.1, P17.2: the document's example.
func TestExample(t *testing.T) {
	b := newBench(t, config(1, 1, 3))
	b.orFull(0, makes(1), gives(5))
	b.orFull(0, link(5, 0, 5), ok)
	b.is(0, load(5, 0), gives(6))
	b.is(0, same(5, 6), yes)
	b.is(0, opens(5), gives(9))
	b.orFull(0, unlink(5, 0), ok)
	b.is(0, next(9), gives(7))
	b.fails(0, next(9), api.ErrDone)
	b.held(0, 3)
	b.node(0, 7, 0)
	b.fields(0, none)
}

// P17.1: in a new model nothing is: nobody holds anything, and there is no node.
func TestNewModels(t *testing.T) {
	for _, c := range configs() {
		b := newBench(t, c)
		for who := range c.Clients {
			b.held(who, 0)
			for _, h := range append([]uint64{0, 2, 1 << 56}, fresh...) {
				b.node(who, h, none)
				b.fails(who, release(h), api.ErrHandle)
				b.fails(who, opens(h), api.ErrHandle)
				b.fails(who, next(h), api.ErrDone)
				b.fails(who, closes(h), api.ErrDone)
			}
		}
		b.fields(0)
	}
}

// P17.2: New makes nodes, numbered in their order, of each arity up to the config's; none of one less, or one more.
func TestNew(t *testing.T) {
	for _, c := range configs() {
		b := newBench(t, c)
		h := uint64(20)
		for arity := range c.Arity + 1 {
			b.orFull(0, makes(arity), gives(h))
			b.held(0, 1)
			b.node(0, h, arity)
			want := make([]int, arity)
			for i := range want {
				want[i] = none
				b.is(0, load(h, i), ok)
			}
			b.fields(arity, want...)
			b.fails(0, load(h, arity), api.ErrField)
			b.is(0, release(h), ok)
			h++
		}
		for _, n := range noNumbers(c.Arity + 1) {
			b.fails(0, makes(n), api.ErrArg)
		}
		b.fields(c.Arity + 1)
		b.held(0, 0)
	}
}

// P17.2: what stands beside in a call that has no such argument is passed over.
func TestArgumentsBeside(t *testing.T) {
	b := newBench(t, config(1, 1, 4))
	b.orFull(0, api.Call{Kind: api.New, N: 1, H: 3, X: 4, Y: 5}, gives(5))
	b.orFull(0, api.Call{Kind: api.Link, H: 5, X: 5, Y: 77}, ok)
	b.is(0, api.Call{Kind: api.Load, H: 5, X: 77, Y: 78}, gives(6))
	b.is(0, api.Call{Kind: api.Same, N: 99, H: 5, X: 6, Y: 77}, yes)
	b.orFull(0, api.Call{Kind: api.Unlink, H: 5, X: 6, Y: 77}, ok)
	b.fields(0, none)
	b.orFull(0, api.Call{Kind: api.Unlink, H: 5, X: 77}, ok)
	b.is(0, api.Call{Kind: api.Open, N: -7, H: 5, X: 77, Y: 78}, gives(9))
	b.is(0, api.Call{Kind: api.Next, N: 99, H: 9, X: 77, Y: 78}, gives(7))
	b.is(0, api.Call{Kind: api.Close, N: 99, H: 9, X: 77, Y: 78}, ok)
	b.is(0, api.Call{Kind: api.Release, N: 3, H: 5, X: 77, Y: 78}, ok)
	b.held(0, 2)
}

// P17.2: the model knows of no slots: it takes as many nodes as are made.
func TestMoreNodesThanSlots(t *testing.T) {
	b := newBench(t, config(1, 1, 1))
	for n := range 200 {
		h := uint64(n) + 20
		b.orFull(0, makes(1), gives(h))
		b.node(0, h, n)
		b.orFull(0, link(h, 0, h), ok)
		b.is(0, release(h), ok)
	}
	for n := range 200 {
		b.fields(n, n)
	}
}

// P17.2: fields name other nodes, the node itself, and none again; each one its own.
func TestLinkAndUnlink(t *testing.T) {
	b := newBench(t, config(3, 1, 8))
	b.orFull(0, makes(3), gives(10))
	b.orFull(0, makes(1), gives(11))
	b.orFull(0, makes(0), gives(12))
	b.orFull(0, link(10, 0, 11), ok)
	b.fields(0, 1, none, none)
	b.orFull(0, link(10, 2, 12), ok)
	b.fields(0, 1, none, 2)
	b.orFull(0, link(11, 0, 11), ok)
	b.fields(1, 1)
	b.fields(2)
	b.orFull(0, link(10, 0, 10), ok)
	b.fields(0, 0, none, 2)
	b.is(0, load(10, 0), gives(13))
	b.node(0, 13, 0)
	b.is(0, load(10, 1), ok)
	b.is(0, load(13, 2), gives(14))
	b.node(0, 14, 2)
	b.orFull(0, unlink(13, 2), ok)
	b.fields(0, 0, none, none)
	b.orFull(0, unlink(10, 2), ok)
	b.fields(0, 0, none, none)
	b.orFull(0, link(13, 1, 14), ok)
	b.fields(0, 0, 2, none)
	b.fields(1, 1)
	b.held(0, 5)
}

// P17.2: no field, in each kind that has one: the one behind the last one, and all others; behind what isn't held, ahead of all else.
func TestNoFields(t *testing.T) {
	for _, arity := range []int{0, 1, 2, 8} {
		b := newBench(t, config(8, 1, 2))
		b.orFull(0, makes(arity), gives(5))
		b.orFull(0, makes(8), gives(6))
		for _, i := range noNumbers(arity) {
			b.fails(0, load(5, i), api.ErrField)
			b.fails(0, link(5, i, 6), api.ErrField)
			b.fails(0, unlink(5, i), api.ErrField)
			b.fails(0, swap(5, i, 6, 5), api.ErrField)
			b.fails(0, swap(5, i, 0, 0), api.ErrField)
			b.fails(0, load(7, i), api.ErrHandle)
			b.fails(0, link(5, i, 7), api.ErrHandle)
			b.fails(0, unlink(7, i), api.ErrHandle)
			b.fails(0, swap(5, i, 7, 0), api.ErrHandle)
			b.fails(0, swap(5, i, 0, 7), api.ErrHandle)
		}
		if arity > 0 {
			b.is(0, load(5, arity-1), ok)
			b.orFull(0, link(5, arity-1, 6), ok)
			b.orFull(0, swap(5, arity-1, 5, 6), yes)
			b.fails(0, load(5, arity-1), api.ErrRoom)
			b.orFull(0, unlink(5, arity-1), ok)
		}
	}
}

// strangers are handles that a client doesn't hold: none, forged, another client's, a walk's, and one that it let go.
func strangers(b *bench) []uint64 {
	b.orFull(0, makes(1), gives(5))
	b.orFull(0, makes(1), gives(6))
	b.orFull(1, makes(1), gives(7))
	b.is(0, opens(5), gives(9))
	b.is(0, release(6), ok)
	b.is(1, opens(7), gives(8))
	return []uint64{0, 4, 6, 7, 8, 9, 5 + 1<<32, math.MaxUint64}
}

// P17.2: what isn't held is refused by all kinds that ask for it, in each of their arguments.
func TestNotHeld(t *testing.T) {
	b := newBench(t, config(1, 2, 3))
	for _, h := range strangers(b) {
		b.node(0, h, none)
		b.fails(0, load(h, 0), api.ErrHandle)
		b.fails(0, link(h, 0, 5), api.ErrHandle)
		b.fails(0, link(5, 0, h), api.ErrHandle)
		b.fails(0, link(h, 0, h), api.ErrHandle)
		b.fails(0, unlink(h, 0), api.ErrHandle)
		b.fails(0, swap(h, 0, 5, 5), api.ErrHandle)
		b.fails(0, swap(h, 0, 0, 0), api.ErrHandle)
		b.fails(0, release(h), api.ErrHandle)
		b.fails(0, same(h, 5), api.ErrHandle)
		b.fails(0, same(5, h), api.ErrHandle)
		b.fails(0, same(h, h), api.ErrHandle)
		b.fails(0, opens(h), api.ErrHandle)
		if h != 0 {
			b.fails(0, swap(5, 0, h, 5), api.ErrHandle)
			b.fails(0, swap(5, 0, 5, h), api.ErrHandle)
			b.fails(0, swap(5, 0, h, h), api.ErrHandle)
			b.fails(0, swap(5, 0, 0, h), api.ErrHandle)
		}
	}
	b.held(0, 1)
	b.held(1, 1)
	b.fields(0, none)
}

// P17.2: Swap is done where the field names what Y does, none where Y is 0; X is what it names then, none by a 0; else it answers no, and then never ErrFull.
func TestSwap(t *testing.T) {
	b := newBench(t, config(1, 1, 3))
	b.orFull(0, makes(1), gives(5))
	b.orFull(0, makes(1), gives(6))
	b.is(0, swap(5, 0, 6, 5), ok)
	b.is(0, swap(5, 0, 0, 6), ok)
	b.fields(0, none)
	b.orFull(0, swap(5, 0, 0, 0), yes)
	b.fields(0, none)
	b.orFull(0, swap(5, 0, 6, 0), yes)
	b.fields(0, 1)
	b.is(0, swap(5, 0, 5, 0), ok)
	b.is(0, swap(5, 0, 0, 0), ok)
	b.is(0, swap(5, 0, 5, 5), ok)
	b.fields(0, 1)
	b.orFull(0, swap(5, 0, 6, 6), yes)
	b.fields(0, 1)
	b.is(0, load(5, 0), gives(7))
	b.orFull(0, swap(5, 0, 5, 7), yes)
	b.fields(0, 0)
	b.is(0, swap(5, 0, 7, 6), ok)
	b.orFull(0, swap(5, 0, 0, 5), yes)
	b.fields(0, none)
	b.fields(1, none)
	b.held(0, 3)
}

// P17.2: Same holds nodes against one another, not handles.
func TestSame(t *testing.T) {
	b := newBench(t, config(1, 2, 3))
	b.orFull(0, makes(1), gives(5))
	b.orFull(0, makes(1), gives(6))
	b.is(0, same(5, 5), yes)
	b.is(0, same(5, 6), ok)
	b.is(0, same(6, 5), ok)
	b.orFull(0, link(6, 0, 5), ok)
	b.is(0, load(6, 0), gives(7))
	b.is(0, same(5, 7), yes)
	b.is(0, same(7, 5), yes)
	b.is(0, same(7, 6), ok)
}

// P17.2: Release lets go of one handle; the node is held by the others still, and named by what names it; the handle is held never again.
func TestRelease(t *testing.T) {
	b := newBench(t, config(1, 1, 2))
	b.orFull(0, makes(1), gives(5))
	b.orFull(0, link(5, 0, 5), ok)
	b.is(0, load(5, 0), gives(6))
	b.is(0, release(5), ok)
	b.held(0, 1)
	b.node(0, 5, none)
	b.node(0, 6, 0)
	b.fields(0, 0)
	b.fails(0, release(5), api.ErrHandle)
	b.is(0, load(6, 0), gives(7))
	b.fails(0, load(6, 0), api.ErrRoom)
	b.is(0, release(6), ok)
	b.is(0, release(7), ok)
	b.held(0, 0)
	b.fields(0, 0)
	b.fails(0, load(5, 0), api.ErrHandle)
}

// P17.2: a client that holds as many as Handles has no room, one that holds one less has: for New, Load and Next; what comes ahead of that is answered first, and others have room of their own.
func TestRoom(t *testing.T) {
	for _, handles := range []int{1, 2, 15, 16} {
		b := newBench(t, config(1, 2, handles))
		h := uint64(20)
		for n := range handles - 1 {
			b.orFull(0, makes(0), gives(h))
			h++
			b.held(0, n+1)
		}
		b.orFull(0, makes(1), gives(5))
		b.is(0, opens(5), gives(9))
		b.held(0, handles)
		b.fails(0, makes(1), api.ErrRoom)
		b.fails(0, makes(0), api.ErrRoom)
		b.fails(0, makes(2), api.ErrArg)
		b.is(0, load(5, 0), ok)
		b.orFull(0, link(5, 0, 5), ok)
		b.fails(0, load(5, 0), api.ErrRoom)
		b.fails(0, load(5, 1), api.ErrField)
		b.fails(0, load(4, 0), api.ErrHandle)
		b.fails(0, next(9), api.ErrRoom)
		b.fails(0, next(8), api.ErrDone)
		b.fails(0, opens(5), api.ErrOpen)
		b.orFull(1, makes(1), gives(6))
		b.held(1, 1)
		if handles > 1 {
			b.is(0, release(20), ok)
			b.is(0, load(5, 0), gives(7))
			b.is(0, release(7), ok)
			b.orFull(0, makes(1), gives(8))
			b.is(0, release(8), ok)
			b.is(0, next(9), gives(10))
			b.fails(0, next(9), api.ErrDone)
			b.held(0, handles)
		}
		b.is(0, closes(9), ok)
		b.is(0, opens(5), gives(19))
	}
}

// P17.2: a handle is given once, to one client, by whichever kind, be it held still or not; 0 never.
func TestHandlesAreGivenOnce(t *testing.T) {
	b := newBench(t, config(1, 2, 8))
	b.orFull(0, makes(1), gives(5))
	b.orFull(0, link(5, 0, 5), ok)
	b.is(0, load(5, 0), gives(6))
	b.is(0, opens(5), gives(7))
	b.is(0, next(7), gives(8))
	b.is(0, closes(7), ok)
	b.is(0, release(6), ok)
	b.is(0, release(8), ok)
	b.orFull(1, makes(1), gives(10))
	b.orFull(1, link(10, 0, 10), ok)
	b.is(1, opens(10), gives(11))
	b.is(0, opens(5), gives(12))
	for who, h := range []uint64{5, 10} {
		for _, old := range []uint64{0, 5, 6, 7, 8, 10, 11, 12} {
			b.refuses(who, makes(1), gives(old))
			b.refuses(who, load(h, 0), gives(old))
			b.refuses(who, next(11+uint64(1-who)), gives(old))
		}
	}
	b.is(1, closes(11), ok)
	for _, old := range []uint64{0, 5, 6, 7, 8, 10, 11, 12} {
		b.refuses(1, opens(10), gives(old))
	}
	b.is(1, opens(10), gives(math.MaxUint64))
	b.held(0, 1)
	b.held(1, 1)
}

// P17.2: what a handle's refusal would have given may still be given: a handle that wasn't taken was never given.
func TestRefusedHandlesAreFree(t *testing.T) {
	b := newBench(t, config(1, 1, 1))
	b.refuses(0, makes(2), gives(5))
	b.refuses(0, makes(1), api.Answer{H: 5, Yes: true})
	b.refuses(0, makes(1), api.Answer{Err: api.ErrFull, H: 5})
	b.refuses(0, load(5, 0), gives(5))
	b.refuses(0, opens(5), gives(5))
	b.orFull(0, makes(1), gives(5))
	b.refuses(0, makes(1), gives(6))
	b.refuses(0, load(5, 0), gives(6))
	b.orFull(0, link(5, 0, 5), ok)
	b.refuses(0, load(5, 0), gives(6))
	b.is(0, opens(5), gives(9))
	b.refuses(0, opens(5), gives(6))
	b.refuses(0, next(9), gives(6))
	b.is(0, release(5), ok)
	b.is(0, next(9), gives(6))
}

// P17.2: clients have their own handles of nodes that are all of one model: what one writes another one reads.
func TestClientsShareNodes(t *testing.T) {
	b := newBench(t, config(2, 3, 4))
	b.orFull(0, makes(2), gives(5))
	b.orFull(1, makes(2), gives(6))
	b.orFull(2, makes(0), gives(7))
	b.node(0, 5, 0)
	b.node(1, 6, 1)
	b.node(2, 7, 2)
	b.node(1, 5, none)
	b.fails(1, link(6, 0, 5), api.ErrHandle)
	b.fails(0, same(5, 6), api.ErrHandle)
	b.fails(0, release(6), api.ErrHandle)
	b.orFull(1, link(6, 1, 6), ok)
	b.is(1, release(6), ok)
	b.fields(1, none, 1)
	b.held(0, 1)
	b.held(1, 0)
	b.held(2, 1)
	b.fails(1, load(6, 1), api.ErrHandle)
}
