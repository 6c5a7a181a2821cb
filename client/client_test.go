package client_test

import (
	"testing"

	"withy/api"
	"withy/client"
	"withy/field"
	"withy/plan"
)

// keeps has the free list be the first n slots alone; all others are for whoever else lays records.
func (k *bench) keeps(n int) *bench {
	k.m.Store(plan.Link(k.c, n-1), 0)
	return k
}

// P21.3: the chapter's example.
func TestExample(t *testing.T) {
	k := newBench(t, config(1, 1, 1, 2))
	k.gets(0, makes(1), 0)
	k.is(0, makes(1), only(api.ErrFull))
}

// P21.1: a client that is new did nothing, and no call of it is over.
func TestNewClient(t *testing.T) {
	for _, c := range configs() {
		for _, who := range []int{0, c.Clients - 1} {
			k := newBench(t, c)
			k.over(who, ok, 0, false)
			k.holds(who, 0, none)
			k.holds(who, handle(who, 0, 1), none)
		}
	}
}

// P21.3: a New, touch by touch: a node of that arity is made in the epoch, its entry taken, and the word stored, at which it takes effect.
func TestNew(t *testing.T) {
	k := newBench(t, config(4, 2, 2, 3))
	k.epoch(6)
	k.begins(1, makes(2))
	k.pins(1)
	k.takes(1, 0)
	h := handle(1, 0, 1)
	k.holds(1, h, none)
	k.touches(1, stores(k.entry(1, 0)))
	k.isWord(k.entry(1, 0), 1<<32+1)
	k.holds(1, h, 0)
	k.leaves(1, gives(h), 1, true)
	same(t, "header", k.head(0), api.Header{Kind: api.Node, Mark: 0, Arity: 2})
	same(t, "a second handle", k.gets(1, makes(0), 1), handle(1, 1, 1))
	same(t, "header", k.head(1), api.Header{Kind: api.Node, Mark: 0})
	same(t, "another one's", k.gets(0, makes(1), 2), handle(0, 0, 1))
	k.holds(1, handle(0, 0, 1), none)
	k.holds(0, h, none)
	k.list(3)
}

// P21.3: nodes of all arities; in what stands in the body of the slot is nothing of what was there before.
func TestArities(t *testing.T) {
	for _, c := range configs() {
		for arity := range c.Arity + 1 {
			k := newBench(t, c)
			for i := range bodySize(c) {
				k.m.Store(k.body(0, i), 99)
			}
			k.gets(0, makes(arity), 0)
			same(t, "header", k.head(0), api.Header{Kind: api.Node, Arity: arity})
			for i := range bodySize(c) {
				k.isWord(k.body(0, i), 0)
			}
		}
	}
}

// P21.3: without a slot a New is ErrFull, and the entry isn't taken.
func TestNewWithoutASlot(t *testing.T) {
	k := newBench(t, config(1, 1, 1, 2))
	k.gets(0, makes(1), 0)
	k.begins(0, makes(0))
	k.pins(0)
	k.touches(0, loads(plan.Top))
	k.leaves(0, only(api.ErrFull), 1, true)
	k.isWord(k.entry(0, 1), 0)
	k.m.Store(plan.Top, 1<<16+1)
	same(t, "the next handle", k.gets(0, makes(0), 0), handle(0, 1, 1))
}

// P21.3: a Load of a field without a record, and of one with a record without a value, is none, at the Read's point.
func TestLoadOfNone(t *testing.T) {
	k := newBench(t, config(4, 2, 1, 1)).keeps(2)
	h := k.gets(0, makes(2), 0)
	k.begins(0, load(h, 1))
	k.pins(0)
	k.touches(0, loads(k.header(0)), loads(k.body(0, 1)))
	k.leaves(0, ok, 1, true)
	k.lays(0, 1, 3, none)
	k.begins(0, load(h, 1))
	k.pins(0)
	k.touches(0, loads(k.header(0)), loads(k.body(0, 1)), loads(k.body(3, stamp)), loads(k.body(3, value)))
	k.leaves(0, ok, 3, true)
}

// P21.3: a Load of a node: an entry is taken, and stored; the point is the Read's.
func TestLoad(t *testing.T) {
	k := newBench(t, config(4, 1, 1, 3)).keeps(2)
	h := k.gets(0, makes(1), 0)
	k.gets(0, makes(0), 1)
	k.lays(0, 0, 3, 1)
	k.begins(0, load(h, 0))
	k.pins(0)
	k.touches(0, loads(k.header(0)), loads(k.body(0, 0)), loads(k.body(3, stamp)), loads(k.body(3, value)))
	k.touches(0, stores(k.entry(0, 2)))
	k.isWord(k.entry(0, 2), 1<<32+2)
	k.leaves(0, gives(handle(0, 2, 1)), 4, true)
	k.holds(0, handle(0, 2, 1), 1)
}

// P21.3: a Load that has to stamp the record takes effect when the clock is loaded for that.
func TestLoadStamps(t *testing.T) {
	k := newBench(t, config(4, 1, 1, 3)).keeps(2)
	h := k.gets(0, makes(1), 0)
	k.lays(0, 0, 3, 0)
	k.m.Store(k.body(3, stamp), 0)
	k.begins(0, load(h, 0))
	k.pins(0)
	k.touches(0, loads(k.header(0)), loads(k.body(0, 0)), loads(k.body(3, stamp)), loads(plan.Clock), swaps(k.body(3, stamp)), loads(k.body(3, value)))
	k.touches(0, stores(k.entry(0, 1)))
	k.leaves(0, gives(handle(0, 1, 1)), 4, true)
}

// P21.3: a Load without room is ErrRoom, at the Read's point; but where the field names none it needs none.
func TestLoadWithoutRoom(t *testing.T) {
	k := newBench(t, config(4, 2, 1, 1)).keeps(2)
	h := k.gets(0, makes(2), 0)
	k.lays(0, 0, 3, 0)
	k.begins(0, load(h, 0))
	k.pins(0)
	k.touches(0, loads(k.header(0)), loads(k.body(0, 0)), loads(k.body(3, stamp)), loads(k.body(3, value)))
	k.leaves(0, only(api.ErrRoom), 3, true)
	k.is(0, load(h, 1), ok)
	k.is(0, release(h), ok)
	k.gets(0, makes(0), 1)
}

// P21.3: a field that the node doesn't have: its header alone is loaded. It is told ahead of all that would come of the field.
func TestNoField(t *testing.T) {
	for arity := range 4 {
		k := newBench(t, config(2, 3, 1, 1))
		h := k.gets(0, makes(arity), 0)
		k.keeps(2)
		for _, i := range append(noNumbers(3), arity, arity+1) {
			for _, call := range []api.Call{load(h, i), link(h, i, h), unlink(h, i), swap(h, i, h, h), swap(h, i, 0, 0)} {
				k.begins(0, call)
				k.pins(0)
				k.touches(0, loads(k.header(0)))
				k.leaves(0, only(api.ErrField), 1, true)
			}
		}
		k.list(1)
	}
}

// P21.3: a Link, touch by touch: a record is made, and laid: the point is the Lay's, and nothing is ahead of it. The older record stays behind it.
func TestLink(t *testing.T) {
	k := newBench(t, config(6, 2, 1, 2))
	h, x := k.gets(0, makes(2), 0), k.gets(0, makes(0), 1)
	for rec := 2; rec < 4; rec++ {
		k.begins(0, link(h, 1, x))
		k.pins(0)
		k.touches(0, loads(k.header(0)))
		k.takes(0, rec)
		k.isWord(k.body(rec, value), 2)
		k.touches(0, loads(k.body(0, 1)))
		if rec > 2 {
			k.touches(0, loads(k.body(rec-1, stamp)))
		}
		k.touches(0, stores(k.body(rec, older)), swaps(k.body(0, 1)), loads(k.body(rec, stamp)), loads(plan.Clock), swaps(k.body(rec, stamp)))
		k.leaves(0, ok, 2, false)
		same(t, "header", k.head(rec), api.Header{Kind: api.Record})
		k.isWord(k.body(0, 1), uint64(rec)+1)
	}
	k.isWord(k.body(3, older), 3)
	k.isWord(k.body(2, older), 0)
	k.isWord(k.body(0, 0), 0)
}

// P21.3: with a barrier the record that a Link takes away is shaded, in fence and in mark, in the epoch in which the client is pinned.
func TestLinkWithABarrier(t *testing.T) {
	for e := range uint64(8) {
		k := newBench(t, config(6, 1, 1, 2)).keeps(3)
		h := k.gets(0, makes(1), 0)
		k.lays(0, 0, 5, 0)
		if e/4 == 1 { // so that it isn't marked in this cycle
			k.m.Store(k.header(5), k.word(k.header(5))|8)
		}
		k.epoch(e)
		k.begins(0, link(h, 0, h))
		k.pins(0)
		k.touches(0, loads(k.header(0)))
		k.takes(0, 1)
		k.touches(0, loads(k.body(0, 0)), loads(k.body(5, stamp)), stores(k.body(1, older)))
		if e%4 == 1 || e%4 == 2 {
			k.shades(0, 5)
		}
		k.touches(0, swaps(k.body(0, 0)), loads(k.body(1, stamp)), loads(plan.Clock), swaps(k.body(1, stamp)))
		k.leaves(0, ok, 2, false)
	}
}

// P21.3: an Unlink lays a record without a value, whatever else it is called with.
func TestUnlink(t *testing.T) {
	k := newBench(t, config(6, 1, 1, 3))
	h := k.gets(0, makes(1), 0)
	k.is(0, link(h, 0, h), ok)
	k.begins(0, api.Call{Kind: api.Unlink, H: h, X: h, Y: h})
	k.pins(0)
	k.touches(0, loads(k.header(0)))
	k.takes(0, 2)
	k.isWord(k.body(2, value), 0)
	k.touches(0, loads(k.body(0, 0)), loads(k.body(1, stamp)), stores(k.body(2, older)), swaps(k.body(0, 0)), loads(k.body(2, stamp)), loads(plan.Clock), swaps(k.body(2, stamp)))
	k.leaves(0, ok, 2, false)
	k.is(0, load(h, 0), ok)
	k.is(0, unlink(h, 0), ok)
	k.is(0, load(h, 0), ok)
}

// P21.3: a Link or an Unlink without a slot is ErrFull, and the field stays as it is.
func TestLinkWithoutASlot(t *testing.T) {
	k := newBench(t, config(2, 1, 1, 2))
	h := k.gets(0, makes(1), 0)
	k.is(0, link(h, 0, h), ok)
	for _, call := range []api.Call{link(h, 0, h), unlink(h, 0)} {
		k.begins(0, call)
		k.pins(0)
		k.touches(0, loads(k.header(0)), loads(plan.Top))
		k.leaves(0, only(api.ErrFull), 1, true)
	}
	k.gets(0, load(h, 0), 0)
}

// P21.3: a Swap that finds another one than Y's, in a field without a record, and in one with: OK, at the Read's point, and no slot is taken.
func TestSwapFindsAnother(t *testing.T) {
	k := newBench(t, config(6, 1, 1, 3)).keeps(3)
	h, x := k.gets(0, makes(1), 0), k.gets(0, makes(0), 1)
	k.begins(0, swap(h, 0, h, x))
	k.pins(0)
	k.touches(0, loads(k.header(0)), loads(k.body(0, 0)))
	k.leaves(0, ok, 1, true)
	k.lays(0, 0, 5, 0)
	for _, y := range []uint64{x, 0} {
		k.begins(0, swap(h, 0, x, y))
		k.pins(0)
		k.touches(0, loads(k.header(0)), loads(k.body(0, 0)), loads(k.body(5, stamp)), loads(k.body(5, value)))
		k.leaves(0, ok, 3, true)
	}
	k.lays(0, 0, 4, none)
	k.begins(0, swap(h, 0, x, h))
	k.pins(0)
	k.touches(0, loads(k.header(0)), loads(k.body(0, 0)), loads(k.body(4, stamp)), loads(k.body(4, value)))
	k.leaves(0, ok, 3, true)
	k.list(2)
}

// P21.3: a Swap that finds what it expects: the record is laid, and the answer yes: from none to a node, from that to another one, to itself, and to none.
func TestSwap(t *testing.T) {
	k := newBench(t, config(9, 1, 1, 3))
	h, x := k.gets(0, makes(1), 0), k.gets(0, makes(0), 1)
	k.begins(0, swap(h, 0, h, 0))
	k.pins(0)
	k.touches(0, loads(k.header(0)), loads(k.body(0, 0)))
	k.takes(0, 2)
	k.touches(0, loads(k.body(0, 0)), stores(k.body(2, older)), swaps(k.body(0, 0)), loads(k.body(2, stamp)), loads(plan.Clock), swaps(k.body(2, stamp)))
	k.leaves(0, yes, 2, false)
	for i, l := range [][2]uint64{{x, h}, {x, x}, {0, x}, {0, 0}} {
		was, rec := 2+i, 3+i
		k.begins(0, swap(h, 0, l[0], l[1]))
		k.pins(0)
		k.touches(0, loads(k.header(0)), loads(k.body(0, 0)), loads(k.body(was, stamp)), loads(k.body(was, value)))
		k.takes(0, rec)
		k.touches(0, loads(k.body(0, 0)), loads(k.body(was, stamp)), loads(k.body(was, value)))
		k.touches(0, stores(k.body(rec, older)), swaps(k.body(0, 0)), loads(k.body(rec, stamp)), loads(plan.Clock), swaps(k.body(rec, stamp)))
		k.leaves(0, yes, 2, false)
		k.isWord(k.body(rec, value), []uint64{2, 2, 0, 0}[i])
	}
	k.is(0, load(h, 0), ok)
}

// P21.3: a Swap without a slot is ErrFull, at the Read's point; but where it finds another one than Y's it needs none.
func TestSwapWithoutASlot(t *testing.T) {
	k := newBench(t, config(2, 1, 1, 2))
	h := k.gets(0, makes(1), 0)
	k.is(0, link(h, 0, h), ok)
	k.begins(0, swap(h, 0, 0, h))
	k.pins(0)
	k.touches(0, loads(k.header(0)), loads(k.body(0, 0)), loads(k.body(1, stamp)), loads(k.body(1, value)), loads(plan.Top))
	k.leaves(0, only(api.ErrFull), 4, true)
	k.is(0, swap(h, 0, h, 0), ok)
	k.gets(0, load(h, 0), 0)
}

// P21.3: a Release, in all epochs of two cycles: with a barrier the slot is shaded first; the entry holds it till its word is stored, with the tag that it had.
func TestRelease(t *testing.T) {
	for e := range uint64(8) {
		k := newBench(t, config(2, 0, 1, 2))
		k.epoch(e / 4 * 4)
		h := k.gets(0, makes(0), 0)
		other := k.gets(0, makes(0), 1)
		k.epoch(e)
		k.begins(0, release(h))
		k.pins(0)
		if e%4 == 1 || e%4 == 2 {
			k.shades(0, 0)
		}
		k.holds(0, h, 0)
		k.touches(0, stores(k.entry(0, 0)))
		k.isWord(k.entry(0, 0), 1<<32)
		k.leaves(0, ok, 1, true)
		k.holds(0, h, none)
		k.holds(0, other, 1)
		k.atOnce(0, release(h), only(api.ErrHandle))
		k.m.Store(plan.Top, 1)
		same(t, "the next handle", k.gets(0, makes(0), 0), handle(0, 0, 2))
	}
}

// P21.3: a Release of a slot that is marked already has nothing to shade: its header is loaded.
func TestReleaseOfMarked(t *testing.T) {
	k := newBench(t, config(1, 0, 1, 1))
	k.epoch(2)
	h := k.gets(0, makes(0), 0)
	k.m.Store(k.header(0), k.word(k.header(0))|8)
	k.begins(0, release(h))
	k.pins(0)
	k.touches(0, loads(k.header(0)), stores(k.entry(0, 0)))
	k.leaves(0, ok, 1, true)
	k.isWord(plan.Grays, 0)
}

// P21.3: an Open, touch by touch; the point is the Turn's, and the handle a walk's, with the tag 1.
func TestOpen(t *testing.T) {
	k := newBench(t, config(2, 0, 2, 2))
	k.gets(1, makes(0), 0)
	h := k.gets(1, makes(0), 1)
	k.m.Store(plan.Clock, 7)
	view, start := plan.View(k.c, 1), plan.Start(k.c, 1)
	k.begins(1, opens(h))
	k.pins(1)
	k.touches(1, stores(view))
	k.isWord(view, 1)
	k.touches(1, stores(start))
	k.isWord(start, 2)
	k.touches(1, loads(plan.Clock), swaps(plan.Clock))
	k.isWord(plan.Clock, 8)
	k.touches(1, stores(view))
	k.isWord(view, 9)
	k.leaves(1, gives(handle(1, 255, 1)), 2, true)
	k.holds(1, handle(1, 255, 1), none)
	k.isWord(plan.View(k.c, 0), 0)
	k.isWord(plan.Start(k.c, 0), 0)
}

// P21.3: a Next opens up the walk's first node, and takes an entry for it; at the row's end it is told at once that nothing more comes.
func TestNext(t *testing.T) {
	k := newBench(t, config(4, 2, 1, 4)).keeps(3)
	h := k.gets(0, makes(2), 0)
	k.gets(0, makes(0), 1)
	k.lays(0, 1, 3, 1)
	w := k.does(0, opens(h)).H
	k.begins(0, next(w))
	k.pins(0)
	k.touches(0, loads(k.header(0)), loads(k.body(0, 0)), loads(k.body(0, 1)), loads(k.body(3, stamp)), loads(k.body(3, stamp)), loads(k.body(3, value)))
	k.touches(0, stores(k.entry(0, 2)))
	k.isWord(k.entry(0, 2), 1<<32+1)
	k.leaves(0, gives(handle(0, 2, 1)), 1, true)
	k.holds(0, handle(0, 2, 1), 0)
	k.begins(0, next(w))
	k.pins(0)
	k.touches(0, loads(k.header(1)), stores(k.entry(0, 3)))
	k.leaves(0, gives(handle(0, 3, 1)), 1, true)
	k.holds(0, handle(0, 3, 1), 1)
	k.atOnce(0, next(w), only(api.ErrDone))
	k.is(0, release(handle(0, 3, 1)), ok)
	k.atOnce(0, next(w), only(api.ErrDone))
	k.atOnce(0, opens(h), only(api.ErrOpen))
	k.is(0, closes(w), ok)
}

// P21.3: a Close, in all epochs of two cycles: with a barrier the start is shaded first; then the start's word is stored, then the view's.
func TestClose(t *testing.T) {
	for e := range uint64(8) {
		k := newBench(t, config(2, 0, 1, 2))
		k.epoch(e / 4 * 4)
		k.gets(0, makes(0), 0)
		h := k.gets(0, makes(0), 1)
		w := k.does(0, opens(h)).H
		k.is(0, release(h), ok)
		k.epoch(e)
		view, start := plan.View(k.c, 0), plan.Start(k.c, 0)
		k.begins(0, closes(w))
		k.pins(0)
		if e%4 == 1 || e%4 == 2 {
			k.shades(0, 1)
		}
		k.isWord(start, 2)
		k.touches(0, stores(start))
		k.isWord(start, 0)
		k.isWord(view, 3)
		k.touches(0, stores(view))
		k.isWord(view, 0)
		k.leaves(0, ok, 1, true)
		k.atOnce(0, closes(w), only(api.ErrDone))
		k.atOnce(0, next(w), only(api.ErrDone))
	}
}

// P21.3: each walk's handle has a tag one higher than the last one's, whatever comes between; those of before are nobody's.
func TestOpenAgain(t *testing.T) {
	k := newBench(t, config(2, 0, 1, 2))
	h := k.gets(0, makes(0), 0)
	for tag := range uint64(20) {
		w := handle(0, 255, tag+1)
		k.is(0, opens(h), gives(w))
		k.atOnce(0, opens(h), only(api.ErrOpen))
		k.atOnce(0, opens(w), only(api.ErrHandle))
		k.atOnce(0, next(handle(0, 255, tag)), only(api.ErrDone))
		k.atOnce(0, closes(handle(0, 255, tag)), only(api.ErrDone))
		k.atOnce(0, closes(handle(0, 255, tag+2)), only(api.ErrDone))
		if tag%2 == 0 {
			k.is(0, release(k.gets(0, next(w), 0)), ok)
		}
		k.is(0, closes(w), ok)
		k.isWord(plan.View(k.c, 0), 0)
	}
}

// P21.1: what is told of the last call stays till the next one is over, and while that is under way no other one is begun, at none of its steps.
func TestBeginWhileBusy(t *testing.T) {
	k := newBench(t, config(9, 1, 1, 3))
	h := k.gets(0, makes(1), 0)
	k.is(0, link(h, 0, h), ok)
	for _, call := range []api.Call{makes(1), load(h, 0), link(h, 0, h), swap(h, 0, 0, h), opens(h), next(handle(0, 255, 1)), closes(handle(0, 255, 1)), release(h), compare(h, h), {}} {
		a := k.k[0].Answer()
		point, behind := k.k[0].Point()
		before := k.b.Now
		k.begins(0, call)
		for done := false; !done; {
			for _, other := range []api.Call{{}, makes(0), makes(-1), release(h), compare(h, h), call} {
				same(t, "Begin of a second call", k.k[0].Begin(other), false)
			}
			same(t, "Answer", k.k[0].Answer(), a)
			when, is := k.k[0].Point()
			same(t, "Point", when, point)
			same(t, "behind", is, behind)
			k.b.Now++
			done = k.k[0].Step(k.m)
			same(t, "Busy", k.k[0].Busy(), !done)
		}
		if when, _ := k.k[0].Point(); when <= before || when > k.b.Now {
			t.Errorf("%+v: the point %d, from %d to %d", call, when, before+1, k.b.Now)
		}
	}
}

// P21.1: to begin a call is no touch, and no step; it goes by what the client knows then.
func TestBeginAlone(t *testing.T) {
	k := newBench(t, config(2, 0, 2, 1))
	before := k.m.Touches()
	k.begins(0, makes(0))
	k.begins(1, makes(5))
	same(t, "touches", k.m.Touches(), before)
	k.b.Now = 70
	same(t, "Step", k.step(k.k[1], 0), true)
	k.over(1, only(api.ErrArg), 71, true)
	k.b.Now = 100
	same(t, "steps", k.ends(k.k[0]), 13)
	k.over(0, gives(handle(0, 0, 1)), 112, true)
}

// P21.1: clients with books of their own, in memories of their own, have nothing in common.
func TestApart(t *testing.T) {
	c := config(3, 1, 1, 2)
	one, other := newBench(t, c), newBench(t, c)
	h := one.gets(0, makes(1), 0)
	one.is(0, link(h, 0, h), ok)
	other.holds(0, h, none)
	other.atOnce(0, load(h, 0), only(api.ErrHandle))
	same(t, "handle", other.gets(0, makes(1), 0), h)
	other.is(0, load(h, 0), ok)
}

// P21.1: two clients that were made of one number don't know of each other's handles: what is held is each one's own.
func TestMadeTwice(t *testing.T) {
	c := config(3, 0, 2, 1)
	b := field.NewBook()
	one, other := client.New(c, 1, b), client.New(c, 1, b)
	m := plan.Memory(c)
	one.Begin(makes(0))
	for !one.Step(m) {
		b.Now++
	}
	h := one.Answer().H
	same(t, "Holds", one.Holds(h), 0)
	same(t, "Holds", other.Holds(h), none)
}
