package client_test

import (
	"math"
	"testing"

	"withy/api"
	"withy/tag"
)

// P21.2: an Op that is none is told at once, whatever it is called with.
func TestNoOp(t *testing.T) {
	k := newBench(t, config(2, 1, 1, 2))
	h := k.gets(0, makes(1), 0)
	for _, kind := range []int{math.MinInt, -10, -1, 0, 11, 12, 255, 1<<32 + api.New, 1<<32 + api.Same, math.MaxInt} {
		k.atOnce(0, api.Call{Kind: kind}, only(api.ErrOp))
		k.atOnce(0, api.Call{Kind: kind, N: -1, H: h, X: h, Y: h}, only(api.ErrOp))
	}
}

// P21.2: a New of no arity, whether there is room or not.
func TestNoArity(t *testing.T) {
	for _, c := range configs() {
		k := newBench(t, c)
		for _, n := range noNumbers(c.Arity + 1) {
			k.atOnce(0, makes(n), only(api.ErrArg))
		}
		for range c.Handles {
			if k.does(0, makes(0)).Err == api.ErrFull {
				break
			}
		}
		for _, n := range noNumbers(c.Arity + 1) {
			k.atOnce(0, makes(n), only(api.ErrArg))
		}
	}
}

// P21.2: a New without room, whether a slot is free or not.
func TestNewWithoutRoom(t *testing.T) {
	for slots := 3; slots < 5; slots++ {
		k := newBench(t, config(slots, 1, 2, 3))
		var l []uint64
		for i := range 3 {
			l = append(l, k.gets(1, makes(1), i))
		}
		k.atOnce(1, makes(0), only(api.ErrRoom))
		k.atOnce(1, makes(2), only(api.ErrArg))
		k.atOnce(1, api.Call{Kind: api.New, N: 1, H: l[0]}, only(api.ErrRoom))
		k.is(1, release(l[1]), ok)
		if slots == 4 {
			same(t, "handle", k.gets(1, makes(1), 3), handle(1, 1, 2))
			k.atOnce(1, makes(0), only(api.ErrRoom))
		} else {
			k.is(1, makes(1), only(api.ErrFull))
		}
	}
}

// forged are numbers by which a client doesn't hold anything, though it holds by this one: of no form, of another client, another entry, another tag, and each that is turned in a bit.
func forged(h uint64) []uint64 {
	l := []uint64{0, 1, 1 << 32, 1 << 56, math.MaxUint64, h + 1, h - 1, h + 1<<48, h + 1<<56, h + 1<<32}
	for bit := range 64 {
		l = append(l, h^1<<bit)
	}
	who, _, last, _ := tag.HandleParts(h)
	for entry := range 16 {
		if other, _ := tag.Handle(who, entry, last); other != h {
			l = append(l, other)
		}
	}
	return append(l, handle(who, 255, last), handle(who, 255, 1))
}

// byHandle are all calls in which a handle is asked for, in each place; the other places have one that is held.
func byHandle(h, x uint64) []api.Call {
	return []api.Call{
		load(x, 0), link(x, 0, h), link(h, 0, x), link(x, 0, x), unlink(x, 0),
		swap(x, 0, h, h), swap(h, 0, x, h), swap(h, 0, h, x), swap(x, 0, x, x), swap(x, 0, 0, 0), swap(h, 0, x, 0), swap(h, 0, 0, x),
		release(x), compare(x, h), compare(h, x), compare(x, x), opens(x),
	}
}

// P21.2: handles that aren't held: forged ones, of another client, and such as were let go. Of them 0 is none in X and Y of a Swap alone.
func TestHandlesThatArentHeld(t *testing.T) {
	k := newBench(t, config(9, 1, 2, 3))
	h, other := k.gets(0, makes(1), 0), k.gets(1, makes(1), 1)
	gone := k.gets(0, makes(1), 2)
	k.is(0, release(gone), ok)
	for _, x := range append(forged(h), other, gone) {
		k.holds(0, x, none)
		for _, call := range byHandle(h, x) {
			if x == 0 && call.Kind == api.Swap && call.H == h {
				continue
			}
			k.atOnce(0, call, only(api.ErrHandle))
			call.N = -1
			k.atOnce(0, call, only(api.ErrHandle))
		}
	}
	again := k.gets(0, makes(1), 3)
	same(t, "handle", again, handle(0, 1, 2))
	for _, call := range byHandle(h, gone) {
		k.atOnce(0, call, only(api.ErrHandle))
	}
	k.is(0, load(again, 0), ok)
	k.is(0, swap(h, 0, 0, 0), yes)
}

// P21.2: a walk's handle is none of a node, and a node's none of a walk.
func TestHandlesOfWalks(t *testing.T) {
	k := newBench(t, config(3, 1, 1, 2))
	h := k.gets(0, makes(1), 0)
	w := k.does(0, opens(h)).H
	same(t, "handle", w, handle(0, 255, 1))
	k.holds(0, w, none)
	for _, call := range byHandle(h, w) {
		k.atOnce(0, call, only(api.ErrHandle))
	}
	for _, x := range append(forged(w), h, 0) {
		if x != w {
			k.atOnce(0, next(x), only(api.ErrDone))
			k.atOnce(0, closes(x), only(api.ErrDone))
		}
	}
	k.gets(0, next(w), 0)
}

// P21.2: each Same is told at once: by one handle, by two of one node, and by those of two nodes.
func TestSame(t *testing.T) {
	k := newBench(t, config(4, 1, 1, 4))
	h, x := k.gets(0, makes(1), 0), k.gets(0, makes(1), 1)
	k.is(0, link(x, 0, h), ok)
	again := k.gets(0, load(x, 0), 0)
	k.atOnce(0, compare(h, h), yes)
	k.atOnce(0, compare(h, again), yes)
	k.atOnce(0, compare(again, h), yes)
	k.atOnce(0, compare(h, x), ok)
	k.atOnce(0, compare(x, again), ok)
	k.atOnce(0, api.Call{Kind: api.Same, N: -5, H: x, X: x, Y: 7}, yes)
	k.is(0, release(h), ok)
	k.atOnce(0, compare(again, again), yes)
	k.atOnce(0, compare(h, again), only(api.ErrHandle))
}

// P21.2: an Open beside a walk, by the same start or another one, at the walk's end too; of a handle that isn't held that comes first.
func TestOpenBesideAWalk(t *testing.T) {
	k := newBench(t, config(2, 0, 1, 3))
	h, x := k.gets(0, makes(0), 0), k.gets(0, makes(0), 1)
	w := k.does(0, opens(h)).H
	refused := func() {
		t.Helper()
		k.atOnce(0, opens(h), only(api.ErrOpen))
		k.atOnce(0, opens(x), only(api.ErrOpen))
		k.atOnce(0, opens(w), only(api.ErrHandle))
		k.atOnce(0, opens(0), only(api.ErrHandle))
	}
	refused()
	k.gets(0, next(w), 0)
	refused()
	k.atOnce(0, next(w), only(api.ErrDone))
	k.is(0, closes(w), ok)
	k.is(0, opens(x), gives(handle(0, 255, 2)))
}

// P21.2: a Next and a Close without a walk, by whatever number.
func TestWithoutAWalk(t *testing.T) {
	k := newBench(t, config(2, 0, 2, 2))
	h := k.gets(0, makes(0), 0)
	w := k.does(0, opens(h)).H
	for _, x := range []uint64{0, 1, h, w, handle(1, 255, 1), handle(1, 255, 0), math.MaxUint64} {
		k.atOnce(1, next(x), only(api.ErrDone))
		k.atOnce(1, closes(x), only(api.ErrDone))
	}
	k.is(0, closes(w), ok)
	for _, x := range []uint64{0, 1, h, w, handle(0, 255, 2), math.MaxUint64} {
		k.atOnce(0, next(x), only(api.ErrDone))
		k.atOnce(0, closes(x), only(api.ErrDone))
	}
}

// P21.2: a Next without room; at the row's end that there is nothing more comes first. The walk goes on where it was.
func TestNextWithoutRoom(t *testing.T) {
	k := newBench(t, config(3, 0, 1, 2))
	h := k.gets(0, makes(0), 0)
	x := k.gets(0, makes(0), 1)
	w := k.does(0, opens(h)).H
	for range 3 {
		k.atOnce(0, next(w), only(api.ErrRoom))
		k.atOnce(0, next(h), only(api.ErrDone))
	}
	k.is(0, release(x), ok)
	k.gets(0, next(w), 0)
	k.atOnce(0, next(w), only(api.ErrDone))
	k.is(0, closes(w), ok)
}
