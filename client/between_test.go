package client_test

import (
	"testing"

	"withy/api"
	"withy/field"
	"withy/head"
	"withy/plan"
)

// atMark has a client of a memory hold a node of arity 1, whose field names itself by the record in the slot 5, in the epoch of a mark; only the slots below 4 are in the free list.
func atMark(t *testing.T) (*bench, uint64) {
	k := newBench(t, config(8, 1, 2, 3)).keeps(4)
	h := k.gets(0, makes(1), 0)
	k.lays(0, 0, 5, 0)
	k.epoch(2)
	return k, h
}

// gray has a slot's header be the one of a record or node that somebody else shaded, and counted.
func (k *bench) gray(slot int) {
	w, _ := head.Shaded(k.word(plan.Header(k.c, slot)), k.word(plan.Epoch))
	k.m.Store(plan.Header(k.c, slot), w)
	k.m.Store(plan.Grays, k.word(plan.Grays)+1)
}

// P21.2: the epoch moves while a client pins itself: it is pinned in the one that it found again, and keeps to that one's barrier, whatever the epoch is then.
func TestEpochMovesWhilePinning(t *testing.T) {
	k := newBench(t, config(2, 0, 1, 1))
	pin := plan.Pin(k.c, 0)
	h := k.gets(0, makes(0), 0)
	k.begins(0, release(h))
	k.touches(0, loads(plan.Epoch))
	k.epoch(1)
	k.touches(0, stores(pin))
	k.isWord(pin, 1)
	k.touches(0, loads(plan.Epoch), stores(pin))
	k.isWord(pin, 3)
	k.epoch(2)
	k.touches(0, loads(plan.Epoch), stores(pin), loads(plan.Epoch))
	k.isWord(pin, 5)
	k.epoch(3)
	k.shades(0, 0)
	k.touches(0, stores(k.entry(0, 0)))
	k.leaves(0, ok, 1, true)
}

// P21.2: without a barrier in its own epoch a client shades nothing, though the next epoch has one; what it makes bears its own epoch's mark.
func TestEpochMovesBehindThePin(t *testing.T) {
	k := newBench(t, config(9, 1, 1, 3))
	h := k.gets(0, makes(1), 0)
	k.is(0, link(h, 0, h), ok)
	for _, call := range []api.Call{link(h, 0, h), swap(h, 0, 0, h), release(h)} {
		k.epoch(0)
		k.begins(0, call)
		k.pins(0)
		k.epoch(1)
		k.ends(k.k[0])
		k.isWord(plan.Grays, 0)
	}
	same(t, "header", k.head(3), api.Header{Kind: api.Record})
	k.epoch(0)
	k.begins(0, makes(1))
	k.pins(0)
	k.epoch(1)
	k.ends(k.k[0])
	same(t, "header", k.head(4), api.Header{Kind: api.Node, Arity: 1})
	k.epoch(1)
	k.begins(0, makes(1))
	k.pins(0)
	k.epoch(2)
	k.ends(k.k[0])
	same(t, "header", k.head(5), api.Header{Kind: api.Node, Arity: 1, Mark: 1})
}

// P21.3: a Swap that found what it expects, and whose Lay finds another: OK, no, at that one's point, and behind. The record is nobody's.
func TestSwapWhoseLayFails(t *testing.T) {
	k, h := atMark(t)
	k.begins(0, swap(h, 0, 0, h))
	k.pins(0)
	k.touches(0, loads(k.header(0)), loads(k.body(0, 0)), loads(k.body(5, stamp)), loads(k.body(5, value)))
	k.takes(0, 1)
	k.lays(0, 0, 6, none)
	k.touches(0, loads(k.body(0, 0)), loads(k.body(6, stamp)), loads(k.body(6, value)))
	k.leaves(0, ok, 3, true)
	same(t, "header", k.head(1), api.Header{Kind: api.Record, Mark: 1})
	k.isWord(k.body(1, older), 0)
	k.isWord(k.body(1, stamp), 0)
	k.list(2, 3)
	k.is(0, load(h, 0), ok)
}

// P21.3: a Swap whose Lay finds another one that has no stamp yet takes effect when that one is stamped, behind it.
func TestSwapWhoseLayStamps(t *testing.T) {
	k, h := atMark(t)
	k.begins(0, swap(h, 0, h, h))
	k.pins(0)
	k.touches(0, loads(k.header(0)), loads(k.body(0, 0)), loads(k.body(5, stamp)), loads(k.body(5, value)))
	k.takes(0, 1)
	k.lays(0, 0, 6, none)
	k.m.Store(k.body(6, stamp), 0)
	k.touches(0, loads(k.body(0, 0)), loads(k.body(6, stamp)), loads(plan.Clock), swaps(k.body(6, stamp)), loads(k.body(6, value)))
	k.leaves(0, ok, 3, true)
	same(t, "Born", k.b.Born(6), k.b.Now-3)
}

// P21.3: a Lay whose swap isn't done begins anew: of a Swap that still finds what it expects, or not; of a Link whatever it finds.
func TestLayBeginsAnew(t *testing.T) {
	for _, swapping := range []bool{true, false} {
		for _, val := range []int{0, none} {
			k, h := atMark(t)
			call, a := link(h, 0, h), ok
			if swapping {
				call, a = swap(h, 0, h, h), yes
			}
			k.begins(0, call)
			k.pins(0)
			k.touches(0, loads(k.header(0)))
			if swapping {
				k.touches(0, loads(k.body(0, 0)), loads(k.body(5, stamp)), loads(k.body(5, value)))
			}
			k.takes(0, 1)
			k.touches(0, loads(k.body(0, 0)), loads(k.body(5, stamp)))
			if swapping {
				k.touches(0, loads(k.body(5, value)))
			}
			k.touches(0, stores(k.body(1, older)))
			k.shades(0, 5)
			k.lays(0, 0, 6, val)
			k.touches(0, swaps(k.body(0, 0)))
			k.touches(0, loads(k.body(0, 0)), loads(k.body(6, stamp)))
			if swapping {
				k.touches(0, loads(k.body(6, value)))
				if val == none {
					k.leaves(0, ok, 3, true)
					continue
				}
			}
			k.touches(0, stores(k.body(1, older)))
			k.shades(0, 6)
			k.touches(0, swaps(k.body(0, 0)), loads(k.body(1, stamp)), loads(plan.Clock), swaps(k.body(1, stamp)))
			k.leaves(0, a, 2, false)
			k.isWord(k.body(1, older), 7)
		}
	}
}

// P21.3: another one stamps the record that was laid: the point is that record's all the same.
func TestAnotherOneStamps(t *testing.T) {
	k, h := atMark(t)
	k.begins(0, link(h, 0, h))
	k.pins(0)
	k.touches(0, loads(k.header(0)))
	k.takes(0, 1)
	k.touches(0, loads(k.body(0, 0)), loads(k.body(5, stamp)), stores(k.body(1, older)))
	k.shades(0, 5)
	k.touches(0, swaps(k.body(0, 0)), loads(k.body(1, stamp)))
	k.ends(field.NewStamp(k.c, 1, k.b))
	point := k.b.Now - 1
	k.b.Now += 10
	k.touches(0, loads(plan.Clock), swaps(k.body(1, stamp)))
	k.leavesAt(0, ok, point, false)
}

// P21.3: between a Load's Read and its entry the field changes: what was read is held.
func TestLoadOfWhatWasThere(t *testing.T) {
	k, h := atMark(t)
	k.begins(0, load(h, 0))
	k.pins(0)
	k.touches(0, loads(k.header(0)), loads(k.body(0, 0)))
	point := k.b.Now
	k.lays(0, 0, 6, none)
	k.touches(0, loads(k.body(5, stamp)), loads(k.body(5, value)), stores(k.entry(0, 1)))
	k.leavesAt(0, gives(handle(0, 1, 1)), point, true)
	k.holds(0, handle(0, 1, 1), 0)
}

// P21.3: another one turns the clock between an Open's load and its swap: the view is the same, and the point that one's.
func TestAnotherOneTurns(t *testing.T) {
	k, h := atMark(t)
	view := plan.View(k.c, 0)
	k.begins(0, opens(h))
	k.pins(0)
	k.touches(0, stores(view), stores(plan.Start(k.c, 0)), loads(plan.Clock))
	u := field.NewTurn(k.c, k.b)
	k.ends(u)
	k.b.Now += 5
	k.touches(0, swaps(plan.Clock))
	k.isWord(plan.Clock, 2)
	k.touches(0, stores(view))
	k.isWord(view, 3)
	k.leavesAt(0, gives(handle(0, 255, 1)), u.Point, true)
}

// P21.3: the last slot is taken by another one: ErrFull, when the list is found empty.
func TestTheLastSlotIsTaken(t *testing.T) {
	for _, call := range []func(h uint64) api.Call{
		func(uint64) api.Call { return makes(1) },
		func(h uint64) api.Call { return link(h, 0, h) },
		func(h uint64) api.Call { return unlink(h, 0) },
	} {
		k := newBench(t, config(4, 1, 2, 2)).keeps(3)
		h, _ := k.gets(0, makes(1), 0), k.gets(1, makes(1), 1)
		one := call(h)
		k.begins(0, one)
		k.pins(0)
		if one.Kind != api.New {
			k.touches(0, loads(k.header(0)))
		}
		k.touches(0, loads(plan.Top), loads(plan.Link(k.c, 2)))
		k.gets(1, makes(0), 2)
		k.touches(0, swaps(plan.Top), loads(plan.Top))
		k.leaves(0, only(api.ErrFull), 1, true)
		k.list()
	}
}

// P21.3: a Swap is ErrFull at the Read's point, whatever came between.
func TestSwapIsFullAtTheRead(t *testing.T) {
	k, h := atMark(t)
	k.m.Store(plan.Top, 0)
	k.begins(0, swap(h, 0, 0, h))
	k.pins(0)
	k.touches(0, loads(k.header(0)), loads(k.body(0, 0)))
	point := k.b.Now
	k.touches(0, loads(k.body(5, stamp)), loads(k.body(5, value)))
	k.b.Now += 30
	k.lays(0, 0, 6, none)
	k.touches(0, loads(plan.Top))
	k.leavesAt(0, only(api.ErrFull), point, true)
}

// P21.3: another one shades what is to be let go: there is nothing to be done any more, or what it counted is taken back.
func TestAnotherOneShades(t *testing.T) {
	for ahead := range 3 {
		k, h := atMark(t)
		k.begins(0, release(h))
		k.pins(0)
		l := [][2]int{loads(k.header(0)), adds(plan.Grays), swaps(k.header(0)), adds(plan.Grays), loads(k.header(0))}
		k.touches(0, l[:ahead]...)
		k.gray(0)
		if ahead == 0 {
			k.touches(0, l[0])
		} else {
			k.touches(0, l[ahead:]...)
		}
		k.isWord(plan.Grays, 1)
		k.touches(0, stores(k.entry(0, 0)))
		k.leaves(0, ok, 1, true)
	}
}

// P21.3, P20.3: what is laid, and let go, behind an Open doesn't change the walk; what it comes to is held.
func TestWalkStays(t *testing.T) {
	k := newBench(t, config(30, 2, 1, 9))
	h, x := k.gets(0, makes(2), 0), k.gets(0, makes(2), 1)
	k.is(0, link(h, 1, x), ok)
	w := k.does(0, opens(h)).H
	k.is(0, unlink(h, 1), ok)
	k.is(0, link(h, 0, k.gets(0, makes(0), 4)), ok)
	k.is(0, release(x), ok)
	k.is(0, release(h), ok)
	first := k.gets(0, next(w), 0)
	second := k.gets(0, next(w), 1)
	k.atOnce(0, next(w), only(api.ErrDone))
	k.is(0, link(second, 0, first), ok)
	k.is(0, load(first, 1), ok)
	k.is(0, closes(w), ok)
	again := k.does(0, opens(second)).H
	k.gets(0, next(again), 1)
	k.gets(0, next(again), 0)
	k.gets(0, next(again), 4)
	k.atOnce(0, next(again), only(api.ErrDone))
}

// P21.3: walks of two clients, begun at one time: each has its words, and its tags.
func TestWalksOfTwo(t *testing.T) {
	k := newBench(t, config(8, 1, 2, 4))
	h, x := k.gets(0, makes(1), 0), k.gets(1, makes(1), 1)
	k.begins(0, opens(h))
	k.begins(1, opens(x))
	for done := false; !done; {
		k.step(k.k[0], 1)
		done = k.step(k.k[1], 1)
	}
	k.over(0, gives(handle(0, 255, 1)), k.b.Now-5, true)
	k.over(1, gives(handle(1, 255, 1)), k.b.Now-5, true)
	for who := range 2 {
		k.isWord(plan.View(k.c, who), 3)
		k.isWord(plan.Start(k.c, who), uint64(who)+1)
	}
	k.gets(1, next(handle(1, 255, 1)), 1)
	k.atOnce(1, next(handle(0, 255, 1)), only(api.ErrDone))
	k.is(0, closes(handle(0, 255, 1)), ok)
	k.is(1, closes(handle(1, 255, 1)), ok)
}
