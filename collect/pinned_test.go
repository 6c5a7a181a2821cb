package collect_test

import (
	"testing"

	"withy/api"
	"withy/collect"
	"withy/epoch"
	"withy/mem"
	"withy/plan"
)

// atOnce has a machine work till it is done.
func (b *bench) atOnce(s mem.Machine) {
	for n := range 1000 {
		if s.Step(b.m) {
			return
		}
		if n == 999 {
			b.t.Helper()
			b.t.Fatal("the work isn't done")
		}
	}
}

// pins has a client be pinned in the memory's epoch.
func (b *bench) pins(who int) {
	p := epoch.NewPin(b.c, who)
	b.atOnce(p)
	same(b.t, "the pinned client's epoch", p.E, b.k.E)
}

// stays goes on for some steps, in which the epoch is the same, and at last only a client's pin is loaded.
func (b *bench) stays(who int) {
	b.t.Helper()
	e, pin := b.k.E, plan.Pin(b.c, who)
	for range 2 * collect.Bound(b.c) {
		b.step()
	}
	for range 10 {
		b.touch(load(pin, b.m.Words()[pin]))
	}
	same(b.t, "E", b.k.E, e)
}

// P15.1, P8.2: a client that is pinned in an epoch: the collector comes to the next one, and no further, till the client leaves; so in each phase, whoever it is.
func TestPinned(t *testing.T) {
	for e := range uint64(9) {
		for who := range 3 {
			b := newBench(t, api.Config{Slots: 2, Clients: 3, Handles: 1, Gens: 9})
			b.till(e)
			b.pins(who)
			b.till(e + 1)
			b.stays(who)
			b.atOnce(epoch.NewLeave(b.c, who))
			b.till(e + 10)
		}
	}
}

// P15.1: in the epoch in which it waits it does the phase's work all the same.
func TestWorksWhileItWaits(t *testing.T) {
	for _, n := range []struct {
		e    uint64 // in which a client is pinned
		want int    // what becomes of a slot, in the epoch behind that
	}{{3, api.Free}, {0, api.Node}, {1, api.Node}, {2, api.Limbo}} {
		b := bare(t, config(2, 1))
		b.node(0)
		b.till(n.e)
		b.pins(0)
		b.till(n.e + 1)
		b.stays(0)
		same(t, "the slot's kind", b.head(0).Kind, n.want)
	}
	b := bare(t, api.Config{Slots: 1, Clients: 1, Handles: 1, Gens: 1})
	b.node(0)
	b.holds(0, 0, 0)
	b.till(1)
	b.pins(0)
	b.till(2)
	b.stays(0)
	same(t, "what is held is marked", b.head(0), api.Header{Kind: api.Node, Mark: 1})
}

// P15.1: a client that was pinned in the epoch ahead, leaves and is pinned anew in this one: it is waited for no more in this one.
func TestPinnedAnew(t *testing.T) {
	b := newBench(t, config(2, 1))
	for e := range uint64(20) {
		b.pins(0)
		b.till(e + 1)
		b.stays(0)
		b.atOnce(epoch.NewLeave(b.c, 0))
	}
	b.till(b.k.E + 4)
}

// P15.1: clients that are pinned in this epoch are as good as those that aren't at all; each pin is loaded once, in order.
func TestPinnedInTheEpoch(t *testing.T) {
	c := api.Config{Slots: 1, Clients: 3, Handles: 1, Gens: 1}
	for e := range uint64(8) {
		for pinned := range 8 {
			b := newBench(t, c)
			b.till(e)
			for who := range 3 {
				if pinned>>who&1 == 1 {
					b.pins(who)
				}
			}
			b.worked(e)
			for who := range 3 {
				pin := plan.Pin(c, who)
				b.touch(load(pin, (2*e+1)*uint64(pinned>>who&1)))
			}
			b.touch(swap(plan.Epoch, e, e+1))
			same(t, "E", b.k.E, e+1)
		}
	}
}

// P15.1: several that are pinned in the epoch ahead: all of them are waited for, one after the other.
func TestManyPinned(t *testing.T) {
	c := api.Config{Slots: 2, Clients: 8, Handles: 1, Gens: 9}
	for e := range uint64(5) {
		b := newBench(t, c)
		b.till(e)
		for who := range c.Clients {
			b.pins(who)
		}
		b.till(e + 1)
		for who := range c.Clients {
			b.stays(who)
			b.atOnce(epoch.NewLeave(c, who))
		}
		b.till(e + 6)
	}
}

// P15.2, P8.2: with nobody pinned an Advance takes as many steps as there are clients, and two; so a fence does.
func TestNobodyPinned(t *testing.T) {
	for _, c := range configs() {
		b := newBench(t, c)
		b.till(1)
		same(t, "steps of a fence", b.till(2), c.Clients+2)
		b.till(5)
		same(t, "steps of a fence", b.till(6), c.Clients+2)
	}
}

// P15.1: a pin that is stored ahead of the swap, but behind the load of it, is for the epoch that was: it is found in the next one.
func TestPinnedBehindTheLoad(t *testing.T) {
	b := newBench(t, least())
	p := epoch.NewPin(b.c, 0)
	p.Step(b.m) // the epoch 0
	b.worked(0)
	b.touch(load(plan.Pin(b.c, 0), 0))
	p.Step(b.m)
	b.touch(swap(plan.Epoch, 0, 1))
	b.touch(load(plan.Epoch, 1))
	b.touch(load(plan.Pin(b.c, 0), 1))
	b.stays(0)
	same(t, "a Pin that meets another epoch", p.Step(b.m), false)
	b.atOnce(p)
	same(t, "the epoch of the Pin", p.E, 1)
	b.till(2)
	b.stays(0)
}
