package collect_test

import (
	"testing"

	"withy/api"
	"withy/epoch"
	"withy/mem"
	"withy/plan"
	"withy/shade"
	"withy/turn"
)

// orders tells all ways to lay so many things, in order, among so many steps: how many steps come ahead of each one.
func orders(things, steps int, yield func(ahead []int)) {
	ahead := make([]int, things)
	var lay func(i, from int)
	lay = func(i, from int) {
		if i == things {
			yield(ahead)
			return
		}
		for n := from; n <= steps; n++ {
			ahead[i] = n
			lay(i+1, n)
		}
	}
	lay(0, 0)
}

// among has parts of a call be done among a collector's steps.
func (b *bench) among(parts []task, ahead []int) {
	b.t.Helper()
	n := 0
	for i, part := range parts {
		for ; n < ahead[i]; n++ {
			b.step()
		}
		for !part(b.m) {
		}
	}
}

// P15.1, with P2: a client that holds a node by its second entry has the first one hold it, and lets the second one go; in all orders of the Pin, the stores, the Shade that the barrier asks for, and the Leave, among the steps of a cycle. The mark loads the first entry ahead of the second one: without the fence and the barrier it would find the node by neither.
func TestMovedInAllOrders(t *testing.T) {
	c := api.Config{Slots: 1, Clients: 1, Handles: 2, Gens: 2}
	barred := 0
	orders(5, 26, func(ahead []int) {
		b := bare(t, c)
		b.node(0)
		b.holds(0, 1, 0)
		pin := epoch.NewPin(c, 0)
		shades := later(func() mem.Machine {
			if !turn.Fenced(pin.E) {
				return (*shade.Shade)(nil)
			}
			barred++
			return shade.NewShade(c, 0, pin.E)
		})
		take, drop := stores(plan.Entry(c, 0, 0), 1), stores(plan.Entry(c, 0, 1), 0)
		b.among([]task{pin.Step, take, shades, drop, epoch.NewLeave(c, 0).Step}, ahead)
		b.till(max(4, b.k.E)) // behind the sweep; what went to limbo is no node ever again, as nobody makes one
		same(t, "kind of what is held", b.head(0).Kind, api.Node)
	})
	if barred < 1000 {
		t.Errorf("%d orders with a barrier: too few", barred)
	}
}
