package sweep_test

import (
	"slices"
	"testing"

	"withy/api"
	"withy/arena"
	"withy/head"
	"withy/mark"
	"withy/plan"
	"withy/shade"
	"withy/stack"
	"withy/sweep"
)

// P14.1: the document's example, touch by touch: a node that isn't marked, and one that is.
func TestExample(t *testing.T) {
	k := newBench(t, config(2, 9))
	k.heads(0, api.Header{Kind: api.Node})
	k.heads(1, api.Header{Kind: api.Node, Mark: 1})
	first, second := plan.Header(k.c, 0), plan.Header(k.c, 1)
	s := sweep.NewSweep(k.c, 3)
	same(t, "Gone", s.Gone, 0)
	k.step(s, false, load(first, 1))
	same(t, "Gone", s.Gone, 0)
	k.step(s, false, swap(first, 1, 3+3<<48))
	same(t, "Gone", s.Gone, 1)
	k.step(s, true, load(second, 1+8))
	same(t, "Gone", s.Gone, 1)
	k.over(s)
	same(t, "Gone", s.Gone, 1)
	k.is(0, api.Header{Kind: api.Limbo, Stamp: 3})
	k.is(1, api.Header{Kind: api.Node, Mark: 1})

	r := sweep.NewReclaim(k.c)
	isReclaim(t, r, 0, 0)
	k.step(r, false, load(first, 3+3<<48))
	k.step(r, false, load(first, 3+3<<48))
	k.step(r, false, store(first, 3+3<<48, 1<<16))
	k.step(r, false, load(plan.Top, 0))
	k.step(r, false, store(plan.Link(k.c, 0), 2, 0))
	isReclaim(t, r, 0, 0)
	k.step(r, false, swap(plan.Top, 0, perTag+1))
	isReclaim(t, r, 1, 0)
	k.step(r, true, load(second, 1+8))
	isReclaim(t, r, 1, 0)
	k.over(r)
	isReclaim(t, r, 1, 0)
	k.is(0, api.Header{Gen: 1})
	k.has(0)
}

// P14.1: the last slot's work is the last step's: a swap, or what frees it.
func TestLastSlot(t *testing.T) {
	for _, gens := range []int{1, 2} {
		k := newBench(t, config(1, gens))
		k.heads(0, api.Header{Kind: api.Record, Mark: 0})
		at := plan.Header(k.c, 0)
		s := sweep.NewSweep(k.c, 3)
		k.step(s, false, load(at, 2))
		k.step(s, true, swap(at, 2, 3+3<<48))
		k.over(s)
		same(t, "Gone", s.Gone, 1)
		r := sweep.NewReclaim(k.c)
		k.step(r, false, load(at, 3+3<<48))
		k.step(r, false, load(at, 3+3<<48))
		if gens == 1 {
			k.step(r, true, store(at, 3+3<<48, 4+3<<48))
			isReclaim(t, r, 0, 1)
			k.over(r)
			isReclaim(t, r, 0, 1)
			k.has()
			continue
		}
		k.step(r, false, store(at, 3+3<<48, 1<<16))
		k.step(r, false, load(plan.Top, 0))
		k.step(r, false, store(plan.Link(k.c, 0), 0, 0))
		k.step(r, true, swap(plan.Top, 0, perTag+1))
		isReclaim(t, r, 1, 0)
		k.over(r)
		isReclaim(t, r, 1, 0)
		k.has(0)
	}
}

// isSwept: just the nodes and records that weren't marked are in limbo, of their generation, with the epoch as their stamp and not gray; all else is as it was.
func (k *bench) isSwept(before []uint64, e uint64) {
	k.t.Helper()
	want := slices.Clone(before)
	for slot := range k.c.Slots {
		at := plan.Header(k.c, slot)
		h, ok := head.Unpack(before[at])
		if ok && (h.Kind == api.Node || h.Kind == api.Record) && !head.Marked(before[at], e) {
			h.Kind, h.Gray, h.Stamp = api.Limbo, false, int(e%(1<<16))
			want[at] = k.header(h)
		}
	}
	if !slices.Equal(k.m.Words(), want) {
		k.t.Fatal("what is in limbo isn't what wasn't marked")
	}
}

// isReclaimed: all that was in limbo is free, of the next generation, and in the free list; or dead, if there is no such generation; and all others are as they were.
func (k *bench) isReclaimed(before []uint64, back, gone int) {
	k.t.Helper()
	was, now := stack.List(k.c, before), stack.List(k.c, k.m.Words())
	for slot := range k.c.Slots {
		h, ok := head.Unpack(before[plan.Header(k.c, slot)])
		switch {
		case !ok || h.Kind != api.Limbo:
			same(k.t, "the header of another one", k.m.Words()[plan.Header(k.c, slot)], before[plan.Header(k.c, slot)])
			same(k.t, "another one is in the free list", slices.Contains(now, slot), slices.Contains(was, slot))
		case h.Gen+1 < k.c.Gens:
			k.is(slot, api.Header{Gen: h.Gen + 1})
			same(k.t, "one that came back is in the free list", slices.Contains(now, slot), true)
			back--
		default:
			h.Kind = api.Dead
			k.is(slot, h)
			same(k.t, "a dead one is in the free list", slices.Contains(now, slot), false)
			gone--
		}
	}
	same(k.t, "Back beyond what came back", back, 0)
	same(k.t, "Gone beyond what is dead", gone, 0)
	same(k.t, "slots in limbo", k.kinds(api.Limbo), 0)
}

// P14.1, P14.2: slots of all kinds, with both marks, gray and not, in all epochs: which are retired, and what they are then.
func TestKinds(t *testing.T) {
	for _, e := range epochs() {
		for kind := range 5 {
			for bit := range 2 {
				for _, gray := range []bool{false, true} {
					for slot := range 3 {
						k := newBench(t, config(3, 9))
						h := api.Header{Kind: kind, Mark: bit, Gray: gray, Arity: 5, Gen: 1<<32 - 1, Stamp: 77}
						k.heads(slot, h)
						gone := 0
						if (kind == api.Node || kind == api.Record) && bit != black(e) {
							gone = 1
							h = api.Header{Kind: api.Limbo, Mark: bit, Arity: 5, Gen: 1<<32 - 1, Stamp: int(e % (1 << 16))}
						}
						same(t, "Gone", k.sweeps(e), gone)
						k.is(slot, h)
					}
				}
			}
		}
	}
}

// P14.1: words that are no right headers' are neither retired nor freed, and stay as they are.
func TestWrongHeaders(t *testing.T) {
	for _, w := range noHeaders() {
		k := newBench(t, config(3, 9))
		k.heads(0, api.Header{Kind: api.Node})
		k.m.Store(plan.Header(k.c, 1), w)
		k.heads(2, api.Header{Kind: api.Limbo})
		same(t, "Gone", k.sweeps(3), 1)
		back, gone := k.reclaims()
		same(t, "Back", back, 2)
		same(t, "Gone", gone, 0)
		same(t, "header", k.m.Words()[plan.Header(k.c, 1)], w)
		k.has(2, 0)
	}
}

// P14.1: generations below, at and beyond the last one.
func TestGenerations(t *testing.T) {
	for _, gens := range []int{1, 2, 3, api.MaxGens - 1, api.MaxGens} {
		for _, gen := range []int{0, 1, 2, gens - 2, gens - 1, gens, api.MaxGens - 1, 1<<32 - 2, 1<<32 - 1} {
			if gen < 0 {
				continue
			}
			k := newBench(t, config(4, gens))
			h := api.Header{Kind: api.Limbo, Mark: 1, Arity: 3, Gen: gen, Stamp: 9}
			k.heads(2, h)
			back, gone := k.reclaims()
			if gen+1 < gens {
				same(t, "Back", back, 1)
				same(t, "Gone", gone, 0)
				k.is(2, api.Header{Gen: gen + 1})
				k.has(2)
				continue
			}
			same(t, "Back", back, 0)
			same(t, "Gone", gone, 1)
			h.Kind = api.Dead
			k.is(2, h)
			k.has()
		}
	}
}

// P14.2: a slot goes and comes back as often as its generations say, and then it is dead, and neither machine does anything to it.
func TestTillDead(t *testing.T) {
	for _, gens := range []int{1, 2, 5} {
		k := newBench(t, config(2, gens))
		k.m = plan.Memory(k.c)
		for gen := range gens {
			a := arena.NewMake(k.c, api.Node, 0, 0, nil)
			k.ends(a)
			same(t, "Gone", k.sweeps(3), 1)
			k.is(a.Slot, api.Header{Kind: api.Limbo, Gen: gen, Stamp: 3})
			back, gone := k.reclaims()
			same(t, "Back", back == 1, gen+1 < gens)
			same(t, "Gone", gone == 1, gen+1 == gens)
		}
		same(t, "dead slots", k.kinds(api.Dead), 1)
		same(t, "Gone", k.sweeps(3)+k.sweeps(7), 0)
		back, gone := k.reclaims()
		same(t, "Back and Gone", back+gone, 0)
	}
}

// P14.1: all slots at once, of the config with the most: all go, and all come back, the last one first.
func TestAllSlots(t *testing.T) {
	for _, c := range []api.Config{config(1, 2), config(5, 2), greatest()} {
		k := newBench(t, c)
		var want []int
		for slot := range c.Slots {
			k.heads(slot, api.Header{Kind: api.Node + slot%2, Mark: 1})
			want = append([]int{slot}, want...)
		}
		same(t, "Gone", k.sweeps(7), c.Slots)
		same(t, "Gone again", k.sweeps(7), 0)
		same(t, "slots in limbo", k.kinds(api.Limbo), c.Slots)
		back, gone := k.reclaims()
		same(t, "Back", back, c.Slots)
		same(t, "Gone", gone, 0)
		k.has(want...)
	}
}

// P14.2, with chapter 13: behind a Mark just what Found tells of isn't retired.
func TestBehindAMark(t *testing.T) {
	for seed := range uint64(200) {
		c := api.Config{Slots: 12, Arity: 3, Clients: 2, Handles: 2, Gens: 3, Stack: int(seed % 4)}
		k := newBench(t, c)
		s := seed
		for slot := range c.Slots {
			k.heads(slot, api.Header{Kind: api.Node + draw(&s)%2, Arity: draw(&s) % 4, Gen: draw(&s) % 3})
			for i := range 3 {
				k.m.Store(plan.Body(c, slot, i), uint64(draw(&s)%(c.Slots+1)))
			}
		}
		k.m.Store(plan.Entry(c, 1, 0), uint64(draw(&s)%(c.Slots+1)))
		before := k.m.Words()
		found := mark.Found(c, before, 2)
		k.ends(mark.NewMark(c, 2))
		n := 0
		for _, is := range found {
			if !is {
				n++
			}
		}
		same(t, "Gone", k.sweeps(3), n)
		back, gone := k.reclaims()
		same(t, "Back and Gone", back+gone, n)
		for slot, is := range found {
			h, ok := head.Unpack(k.m.Words()[plan.Header(c, slot)])
			was, _ := head.Unpack(before[plan.Header(c, slot)])
			switch {
			case is:
				same(t, "the kind of one that was found", h.Kind, was.Kind)
			case was.Gen+1 < c.Gens:
				same(t, "the header of one that wasn't", h, api.Header{Gen: was.Gen + 1})
			default:
				same(t, "the kind of one that has no generation left", h.Kind, api.Dead)
			}
			same(t, "right", ok, true)
		}
	}
}

// P14.1: a header that another one changes between a Sweep's load and its swap is loaded anew, and the slot is what that says.
func TestHeaderChangesUnderASweep(t *testing.T) {
	for _, now := range []struct {
		h    api.Header
		goes bool
	}{
		{api.Header{Kind: api.Node, Gen: 1}, true},
		{api.Header{Kind: api.Record, Arity: 1}, true},
		{api.Header{Kind: api.Node, Gray: true}, true},
		{api.Header{Kind: api.Node, Mark: 1}, false},
		{api.Header{Kind: api.Node, Mark: 1, Gray: true}, false},
		{api.Header{Kind: api.Limbo}, false},
		{api.Header{}, false},
		{api.Header{Kind: api.Dead}, false},
	} {
		for slot := range 2 {
			k := newBench(t, config(2, 9))
			k.heads(slot, api.Header{Kind: api.Node})
			at, w := plan.Header(k.c, slot), k.header(now.h)
			s := sweep.NewSweep(k.c, 3)
			for range slot {
				k.step(s, false, load(plan.Header(k.c, 0), 0))
			}
			last := slot == 1
			k.step(s, false, load(at, 1))
			k.m.Store(at, w)
			k.step(s, false, swap(at, w, w))
			same(t, "Gone", s.Gone, 0)
			k.step(s, last && !now.goes, load(at, w))
			if now.goes {
				limbo := now.h
				limbo.Kind, limbo.Gray, limbo.Stamp = api.Limbo, false, 3
				k.step(s, last, swap(at, w, k.header(limbo)))
				same(t, "Gone", s.Gone, 1)
			}
			if !last {
				k.step(s, true, load(plan.Header(k.c, 1), 0))
			}
			k.over(s)
		}
	}
}

// P14.1: it may be changed again and again.
func TestHeaderChangesAgain(t *testing.T) {
	k := newBench(t, config(1, 9))
	s := sweep.NewSweep(k.c, 3)
	at := plan.Header(k.c, 0)
	for gen := range uint64(5) {
		k.m.Store(at, 1+gen<<16)
		k.step(s, false, load(at, 1+gen<<16))
		k.m.Store(at, 2+gen<<16)
		k.step(s, false, swap(at, 2+gen<<16, 2+gen<<16))
	}
	k.step(s, false, load(at, 2+4<<16))
	k.step(s, true, swap(at, 2+4<<16, 3+4<<16+3<<48))
	same(t, "Gone", s.Gone, 1)
}

// P14.1: another one that shades a slot of which a Sweep thinks that it goes: it stays.
func TestShadedUnderASweep(t *testing.T) {
	k := newBench(t, config(1, 9))
	k.heads(0, api.Header{Kind: api.Node})
	at := plan.Header(k.c, 0)
	s := sweep.NewSweep(k.c, 3)
	k.step(s, false, load(at, 1))
	k.ends(shade.NewShade(k.c, 0, 3))
	k.step(s, false, swap(at, 1+8+16, 1+8+16))
	k.step(s, true, load(at, 1+8+16))
	same(t, "Gone", s.Gone, 0)
}

// P14.1: what becomes a node, or goes to limbo, behind the machine isn't seen by it; what does so ahead of it is.
func TestAheadAndBehind(t *testing.T) {
	k := newBench(t, config(3, 9))
	s := sweep.NewSweep(k.c, 3)
	k.step(s, false, load(plan.Header(k.c, 0), 0))
	k.heads(0, api.Header{Kind: api.Node})
	k.heads(2, api.Header{Kind: api.Node})
	k.ends(s)
	same(t, "Gone", s.Gone, 1)
	k.is(0, api.Header{Kind: api.Node})

	r := sweep.NewReclaim(k.c)
	k.step(r, false, load(plan.Header(k.c, 0), 1))
	k.heads(0, api.Header{Kind: api.Limbo})
	k.heads(1, api.Header{Kind: api.Limbo, Gen: 4})
	k.ends(r)
	isReclaim(t, r, 2, 0)
	k.is(0, api.Header{Kind: api.Limbo})
	k.has(2, 1)
}

// P14.1: a slot that isn't in limbo any more when the Free loads its header is left as it is, and counts as neither.
func TestLimboNoMore(t *testing.T) {
	for _, h := range []api.Header{{}, {Gen: 1}, {Kind: api.Node}, {Kind: api.Dead}} {
		k := newBench(t, config(2, 9))
		k.heads(0, api.Header{Kind: api.Limbo})
		r := sweep.NewReclaim(k.c)
		k.step(r, false, load(plan.Header(k.c, 0), 3))
		k.heads(0, h)
		k.step(r, false, load(plan.Header(k.c, 0), k.header(h)))
		k.step(r, true, load(plan.Header(k.c, 1), 0))
		isReclaim(t, r, 0, 0)
		k.is(0, h)
		k.has()
	}
}

// P14.1: the free list is moved by others while a Reclaim lays a slot on it: it is laid anew.
func TestListMovesUnderAReclaim(t *testing.T) {
	k := newBench(t, config(3, 9))
	k.m = plan.Memory(k.c)
	a := arena.NewMake(k.c, api.Node, 0, 0, nil)
	k.ends(a)
	k.heads(0, api.Header{Kind: api.Limbo})
	r := sweep.NewReclaim(k.c)
	for range 5 {
		same(t, "Step", r.Step(k.m), false)
	}
	k.ends(arena.NewMake(k.c, api.Record, 0, 0, nil))
	k.step(r, false, swap(plan.Top, 2*perTag+3, 2*perTag+3))
	isReclaim(t, r, 0, 0)
	k.step(r, false, load(plan.Top, 2*perTag+3))
	k.step(r, false, store(plan.Link(k.c, 0), 2, 3))
	k.step(r, false, swap(plan.Top, 2*perTag+3, 3*perTag+1))
	isReclaim(t, r, 1, 0)
	k.has(0, 2)
	k.ends(r)
	isReclaim(t, r, 1, 0)
}

// P2.4: to make a machine is no touch, and two of them have nothing in common.
func TestMadeAhead(t *testing.T) {
	c := config(3, 9)
	s, o, r := sweep.NewSweep(c, 3), sweep.NewSweep(c, 3), sweep.NewReclaim(c)
	k := newBench(t, c)
	k.heads(1, api.Header{Kind: api.Node})
	before := k.m.Touches()
	same(t, "a Sweep's steps", k.ends(s), 4)
	same(t, "another one's", k.ends(o), 3)
	same(t, "a Reclaim's steps", k.ends(r), 8)
	same(t, "touches", k.m.Touches()-before, 15)
	same(t, "Gone", s.Gone, 1)
	same(t, "the other one's Gone", o.Gone, 0)
	isReclaim(t, r, 1, 0)
}
