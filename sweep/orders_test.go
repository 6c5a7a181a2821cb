package sweep_test

import (
	"fmt"
	"slices"
	"testing"

	"withy/api"
	"withy/arena"
	"withy/head"
	"withy/mem"
	"withy/plan"
	"withy/stack"
	"withy/sweep"
)

// scene is a Reclaim, and some that make nodes meanwhile, in one memory.
type scene struct {
	c       api.Config
	m       *mem.Mem
	reclaim sweep.Reclaim
	done    bool
	makes   []arena.Make
	made    []bool // which of them are done
}

// newScene has slots be in limbo, of these generations, and the others be free; and so many that make.
func newScene(t *testing.T, c api.Config, gens []int, makes int) *scene {
	k := newBench(t, c)
	for slot, gen := range gens {
		k.heads(slot, api.Header{Kind: api.Limbo, Gen: gen})
	}
	if len(gens) < c.Slots {
		k.m.Store(plan.Top, uint64(len(gens))+1)
	}
	f := &scene{c: c, m: k.m, reclaim: *sweep.NewReclaim(c)}
	for range makes {
		f.makes = append(f.makes, *arena.NewMake(c, api.Node, 0, 0, nil))
		f.made = append(f.made, false)
	}
	return f
}

// busy tells whether one of them has work left: the Reclaim comes behind the last that makes.
func (f *scene) busy(i int) bool {
	if i < len(f.makes) {
		return !f.made[i]
	}
	return !f.done
}

// step has one of them go a step on.
func (f *scene) step(t *testing.T, i int) {
	touches := f.m.Touches()
	if i < len(f.makes) {
		f.made[i] = f.makes[i].Step(f.m)
	} else {
		f.done = f.reclaim.Step(f.m)
	}
	same(t, "touches in one step", f.m.Touches()-touches, 1)
	f.check(t)
}

// check: no slot is in the free list and something else, and none was taken by two.
func (f *scene) check(t *testing.T) {
	words := f.m.Words()
	things := make([]int, f.c.Slots)
	for _, slot := range stack.List(f.c, words) {
		things[slot]++
		if h, ok := head.Unpack(words[plan.Header(f.c, slot)]); !ok || h.Kind != api.Free {
			t.Fatalf("the slot %d is in the free list, with the header %+v", slot, h)
		}
	}
	for i := range f.makes {
		if slot := f.makes[i].Slot; slot != none {
			things[slot]++
		}
	}
	if slices.Max(things) > 1 {
		t.Fatalf("the slots are so many things: %v", things)
	}
}

// ended: all that was in limbo came back or is dead, and all slots are accounted for.
func (f *scene) ended(t *testing.T, gens []int) {
	dead := 0
	for _, gen := range gens {
		if gen+1 >= f.c.Gens {
			dead++
		}
	}
	isReclaim(t, &f.reclaim, len(gens)-dead, dead)
	k := &bench{t: t, c: f.c, m: f.m}
	same(t, "slots in limbo", k.kinds(api.Limbo), 0)
	same(t, "dead slots", k.kinds(api.Dead), dead)
	for i := range f.makes {
		slot := f.makes[i].Slot
		switch {
		case slot == none:
			same(t, "Full", f.makes[i].Full, true)
		case slot < len(gens):
			k.is(slot, api.Header{Kind: api.Node, Gen: gens[slot] + 1})
		default:
			k.is(slot, api.Header{Kind: api.Node})
		}
	}
	same(t, "free slots", len(stack.List(f.c, f.m.Words())), k.kinds(api.Free))
}

// copied is another scene that goes its own way.
func (f *scene) copied() *scene {
	o := *f
	o.m, o.makes, o.made = f.m.Copy(), slices.Clone(f.makes), slices.Clone(f.made)
	return &o
}

// allOrders goes through all orders in which they can take their steps. Where two orders come to the same state, what follows is gone through once. Of each end it is told how many nodes were made.
func (f *scene) allOrders(t *testing.T, gens []int, seen map[string]bool, ends map[int]int) {
	over := true
	for i := range len(f.makes) + 1 {
		if !f.busy(i) {
			continue
		}
		over = false
		o := f.copied()
		o.step(t, i)
		if key := fmt.Sprint(o.m.Words(), o.reclaim, o.done, o.makes, o.made); !seen[key] {
			seen[key] = true
			o.allOrders(t, gens, seen, ends)
		}
	}
	if over {
		f.ended(t, gens)
		ends[(&bench{t: t, c: f.c, m: f.m}).kinds(api.Node)]++
	}
}

// P14.1, P14.2: a Reclaim, and one or two that make nodes, in all orders of their steps: what comes back is taken, or it is full, as it happens.
func TestAllOrders(t *testing.T) {
	for _, k := range []struct {
		slots, gens int
		limbo       []int
		makes       int
		ends        []int // how many nodes are made, in one order or another
	}{
		{1, 2, []int{0}, 1, []int{0, 1}},
		{1, 1, []int{0}, 1, []int{0}},
		{2, 3, []int{0, 1}, 1, []int{0, 1}},
		{2, 2, []int{0, 1}, 2, []int{0, 1}},
		{2, 2, []int{0, 0}, 2, []int{0, 1, 2}},
		{2, 2, []int{0}, 2, []int{1, 2}},
		{3, 2, []int{0, 1}, 2, []int{1, 2}},
	} {
		seen, ends := map[string]bool{}, map[int]int{}
		newScene(t, config(k.slots, k.gens), k.limbo, k.makes).allOrders(t, k.limbo, seen, ends)
		for n := range 4 {
			if (ends[n] > 0) != slices.Contains(k.ends, n) {
				t.Errorf("%+v: %d states, which come to so many nodes: %v", k, len(seen), ends)
			}
		}
	}
}

// P14.1, P14.2: a Sweep and, behind it, a Reclaim, while many make nodes that are marked, in many orders of their steps: what wasn't marked goes and comes back, and what was made stays.
func TestManyOrders(t *testing.T) {
	again := 0
	for n := range uint64(300) {
		seed := n
		c := config(2+int(n%9), 3)
		k := newBench(t, c)
		k.m = plan.Memory(c)
		for range 1 + c.Slots/2 { // in a rest, so that the next sweep has them go
			k.ends(arena.NewMake(c, api.Record, 0, 0, nil))
		}
		f := &scene{c: c, m: k.m, reclaim: *sweep.NewReclaim(c)}
		for range 2 + n%4 { // in the sweep, so that it has them stay
			f.makes = append(f.makes, *arena.NewMake(c, api.Node, 0, 3, nil))
			f.made = append(f.made, false)
		}
		s, swept := sweep.NewSweep(c, 3), false
		for slices.ContainsFunc(upTo(len(f.makes)+1), f.busy) {
			i := draw(&seed) % (len(f.makes) + 1)
			switch {
			case i == len(f.makes) && !swept:
				swept = s.Step(f.m)
				f.check(t)
			case f.busy(i):
				f.step(t, i)
			}
		}
		same(t, "Gone", s.Gone, 1+c.Slots/2)
		isReclaim(t, &f.reclaim, s.Gone, 0)
		for i := range f.makes {
			slot := f.makes[i].Slot
			if slot == none {
				continue
			}
			gen := 0
			if slot < s.Gone {
				gen = 1
				again++
			}
			k.is(slot, api.Header{Kind: api.Node, Mark: 1, Gen: gen})
		}
		same(t, "slots in limbo", k.kinds(api.Limbo), 0)
		same(t, "records", k.kinds(api.Record), 0)
	}
	if again == 0 {
		t.Error("nothing that came back was made anything again")
	}
}

// upTo is the numbers below n.
func upTo(n int) []int {
	var l []int
	for i := range n {
		l = append(l, i)
	}
	return l
}
