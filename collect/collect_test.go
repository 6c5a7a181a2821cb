package collect_test

import (
	"slices"
	"testing"

	"withy/api"
	"withy/arena"
	"withy/collect"
	"withy/mem"
	"withy/plan"
	"withy/shade"
	"withy/turn"
)

// P15.2: the document's example: over a new memory a cycle is over within Bound steps.
func TestExample(t *testing.T) {
	for _, c := range configs() {
		b := newBench(t, c)
		for range collect.Bound(c) {
			b.step()
		}
		if b.k.Cycles < 1 {
			t.Errorf("%+v: Cycles %d behind %d steps", c, b.k.Cycles, collect.Bound(c))
		}
	}
}

// P15.2: Bound, reckoned by hand.
func TestBound(t *testing.T) {
	for _, n := range []struct {
		c    api.Config
		want int
	}{
		{least(), 4 + 24 + 17 + 17},
		{greatest(), 4225 + 64*56 + 8*77 + 17},
		{api.Config{Slots: 3, Arity: 1, Clients: 1, Handles: 1, Gens: 9}, 16 + 3*28 + 17 + 17},
		{api.Config{Slots: 10, Arity: 4, Clients: 2, Handles: 3, Gens: 1, Stack: 5}, 121 + 10*40 + 2*25 + 17},
		{api.Config{Slots: 64, Clients: 1, Handles: 16, Gens: 2}, 4225 + 64*24 + 77 + 17},
		{api.Config{Slots: 1, Arity: 8, Clients: 8, Handles: 1, Gens: 2, Stack: 64}, 4 + 56 + 8*17 + 17},
	} {
		same(t, "Bound", collect.Bound(n.c), n.want)
	}
}

// P15.2: neither the generations nor how many can wait matter for it.
func TestBoundOfLikeConfigs(t *testing.T) {
	for _, c := range configs() {
		want := collect.Bound(c)
		for _, gens := range []int{1, 2, api.MaxGens} {
			for _, stack := range []int{0, 1, 64} {
				c.Gens, c.Stack = gens, stack
				same(t, "Bound", collect.Bound(c), want)
			}
		}
	}
}

// P15.1: a new one is in the epoch 0, has no cycle behind it, and to make it is no touch.
func TestMade(t *testing.T) {
	for _, c := range configs() {
		b := newBench(t, c)
		same(t, "E", b.k.E, 0)
		same(t, "Cycles", b.k.Cycles, 0)
		same(t, "touches", b.m.Touches(), 0)
	}
}

// places are where things stand in the memory of TestTouchByTouch: slots of five words.
const (
	pinAt   = 4
	entryAt = 5
	viewAt  = 6
	startAt = 7
	first   = 8
	second  = 13
	third   = 18
)

// byHand is a bench with a node that is held, whose field names a record, and a node that nobody has.
func byHand(t *testing.T) *bench {
	b := bare(t, api.Config{Slots: 3, Arity: 1, Clients: 1, Handles: 1, Gens: 2, Stack: 1})
	b.node(0, 1)
	b.record(1, none, 1, none)
	b.node(2)
	b.m.Store(entryAt, 1)
	return b
}

// advances goes through the steps of an Advance with nobody pinned: E is one more with the last of them alone, and so is Cycles, behind a sweep.
func (b *bench) advances(e uint64) {
	b.t.Helper()
	b.touch(load(plan.Epoch, e))
	b.touch(load(pinAt, 0))
	same(b.t, "E ahead of the swap", b.k.E, e)
	same(b.t, "Cycles ahead of the swap", b.k.Cycles, int(e/4))
	b.touch(swap(plan.Epoch, e, e+1))
	same(b.t, "E behind the swap", b.k.E, e+1)
	same(b.t, "Cycles behind the swap", b.k.Cycles, int((e+1)/4))
}

// touches goes through steps of these touches, in one epoch.
func (b *bench) touches(e uint64, l ...api.Touch) {
	b.t.Helper()
	for _, want := range l {
		b.touch(want)
		same(b.t, "E", b.k.E, e)
	}
}

// The headers of TestTouchByTouch: a node of arity 1 and a record, with the mark 0.
const (
	nodeWord   = 1 + 1<<5
	recordWord = 2
	black      = 8
	gray       = 16
)

// P15.1: touch by touch, from the first step on: a cycle, in which a node goes to limbo; and the rest behind it, in which its slot comes back.
func TestTouchByTouch(t *testing.T) {
	b := byHand(t)
	b.touches(0, load(first, nodeWord), load(second, recordWord), load(third, 1))
	b.advances(0)
	b.advances(1)
	b.touches(2,
		load(plan.Clock, 1), load(viewAt, 0),
		load(entryAt, 1), load(first, nodeWord), grow(0, 1), swap(first, nodeWord, nodeWord+black+gray),
		load(startAt, 0),
		load(first, nodeWord+black+gray),
		load(first+2, 2), load(second, recordWord), grow(1, 2), swap(second, recordWord, recordWord+black+gray),
		swap(first, nodeWord+black+gray, nodeWord+black), grow(2, 1),
		load(first, nodeWord+black),
		load(second, recordWord+black+gray),
		load(second+2+value, 0), load(second+2+stamp, 1), load(second+2+older, 0),
		swap(second, recordWord+black+gray, recordWord+black), grow(1, 0),
		load(third, 1),
		load(plan.Grays, 0))
	b.advances(2)
	b.touches(3, load(first, nodeWord+black), load(second, recordWord+black), load(third, 1), swap(third, 1, 3+3<<48))
	b.advances(3)
	b.touches(4,
		load(first, nodeWord+black), load(second, recordWord+black),
		load(third, 3+3<<48), load(third, 3+3<<48), store(third, 3+3<<48, 1<<16),
		load(plan.Top, 0), store(third+1, 0, 0), swap(plan.Top, 0, 1<<16+3))
	b.advances(4)
	b.list(2)
	b.kinds(api.Node, api.Record, api.Free)
	same(t, "generation", b.head(2).Gen, 1)
}

// P15.1: the cycle behind that: the marks have changed sides, and the entry holds nothing any more, so that all goes.
func TestSecondCycleTouchByTouch(t *testing.T) {
	b := byHand(t)
	b.till(5)
	b.m.Store(entryAt, 1<<32)
	b.advances(5)
	b.touches(6,
		load(plan.Clock, 1), load(viewAt, 0), load(entryAt, 1<<32), load(startAt, 0),
		load(first, nodeWord+black), load(second, recordWord+black), load(third, 1<<16),
		load(plan.Grays, 0))
	b.advances(6)
	b.touches(7,
		load(first, nodeWord+black), swap(first, nodeWord+black, nodeWord+black+2+7<<48),
		load(second, recordWord+black), swap(second, recordWord+black, recordWord+black+1+7<<48),
		load(third, 1<<16))
	b.advances(7)
	same(t, "Cycles", b.k.Cycles, 2)
	b.kinds(api.Limbo, api.Limbo, api.Free)
	b.worked(8)
	b.kinds(api.Free, api.Free, api.Free)
	b.list(1, 0, 2)
}

// P15.1: over a new memory, how many steps each epoch takes: its work's, and as many for the Advance as there are clients, and two.
func TestStepsOfEpochs(t *testing.T) {
	for _, c := range configs() {
		b := newBench(t, c)
		work := []int{c.Slots, 0, 1 + 2*c.Clients + c.Clients*c.Handles + c.Slots + 1, c.Slots}
		for e := range uint64(13) {
			same(t, "steps of an epoch", b.till(e+1), work[e%4]+c.Clients+2)
		}
		same(t, "Cycles", b.k.Cycles, 3)
		want := plan.Memory(c).Words()
		want[plan.Epoch] = 13
		same(t, "nothing but the epoch is another one", slices.Equal(b.m.Words(), want), true)
	}
}

// P15.1: what each phase does to slots: a rest brings back what is in limbo, a fence does nothing, a mark marks, a sweep retires.
func TestPhases(t *testing.T) {
	b := bare(t, api.Config{Slots: 4, Arity: 1, Clients: 2, Handles: 1, Gens: 2})
	b.node(0)
	b.node(1)
	b.heads(2, api.Header{Kind: api.Limbo})
	b.heads(3, api.Header{Kind: api.Limbo, Gen: 1})
	b.holds(1, 0, 1)
	b.worked(0)
	b.kinds(api.Node, api.Node, api.Free, api.Dead)
	b.list(2)
	before := b.m.Words()
	b.worked(1)
	before[plan.Epoch] = 1
	same(t, "a fence changes nothing", slices.Equal(b.m.Words(), before), true)
	b.worked(2)
	same(t, "what nobody holds", b.head(0), api.Header{Kind: api.Node})
	same(t, "what is held", b.head(1), api.Header{Kind: api.Node, Mark: 1})
	b.kinds(api.Node, api.Node, api.Free, api.Dead)
	b.worked(3)
	same(t, "what was nobody's", b.head(0), api.Header{Kind: api.Limbo, Stamp: 3})
	same(t, "what is held", b.head(1), api.Header{Kind: api.Node, Mark: 1})
	b.worked(4)
	b.kinds(api.Free, api.Node, api.Free, api.Dead)
	b.list(0, 2)
}

// P15.1: a machine as others, that can be kept as one.
func TestMachine(t *testing.T) {
	b := newBench(t, config(2, 1))
	var s mem.Machine = b.k
	for range 100 {
		same(t, "Step", s.Step(b.m), false)
	}
	same(t, "E", b.k.E > 4, true)
}

// P15.1, P15.3: a node that is held stays what it is for ever; what was made and let go is gone behind each two cycles, and behind the last generation it is dead.
func TestTillDead(t *testing.T) {
	for _, gens := range []int{1, 2, 5} {
		b := newBench(t, api.Config{Slots: 2, Clients: 1, Handles: 1, Gens: gens})
		b.makes(api.Node)
		b.holds(0, 0, 0)
		for gen := range gens {
			same(t, "the slot", b.makes(api.Node), 1)
			same(t, "generation", b.head(1).Gen, gen)
			b.worked(b.k.E/4*4 + 8)
			if gen+1 < gens {
				same(t, "what was let go", b.head(1), api.Header{Gen: gen + 1})
				b.list(1)
			}
		}
		same(t, "slot behind its last generation", b.head(1).Kind, api.Dead)
		b.list()
		b.worked(b.k.E + 40)
		b.kinds(api.Node, api.Dead)
		same(t, "generation of what is held", b.head(0).Gen, 0)
	}
}

// makes has a slot be made something in the collector's epoch, at once, and is that slot.
func (b *bench) makes(kind int) int {
	s := arena.NewMake(b.c, kind, 0, b.k.E, nil)
	for !s.Step(b.m) {
	}
	return s.Slot
}

// P15.3: what is made in a rest, and held by nobody, goes in its own cycle; what is made later, in the next one.
func TestMadeInEachPhase(t *testing.T) {
	for e := range uint64(12) {
		b := newBench(t, config(2, 1))
		b.till(e)
		kind := api.Node + int(e%2)
		slot := b.makes(kind)
		end := e/4*4 + 4
		if turn.At(e) != 1 {
			b.worked(end)
			same(t, "what was born behind the rest", b.head(slot).Kind, kind)
			end += 4
		}
		b.till(end - 1)
		same(t, "ahead of the sweep", b.head(slot).Kind, kind)
		b.till(end)
		same(t, "behind the sweep", b.head(slot).Kind, api.Limbo)
		b.worked(end)
		same(t, "behind the next Reclaim", b.head(slot), api.Header{Gen: 1})
	}
}

// P15.1: the mark and the sweep go by the epoch that they are in, in each cycle: what is held bears the cycle's black, and what goes to limbo the epoch as its stamp.
func TestEpochOfTheWork(t *testing.T) {
	b := bare(t, config(2, 1))
	b.node(0)
	b.holds(0, 0, 0)
	for e := uint64(0); e < 400; e += 4 {
		b.till(e)
		b.heads(1, api.Header{Kind: api.Record, Mark: int(e / 4 % 2)})
		b.worked(e + 2)
		same(t, "mark", b.head(0), api.Header{Kind: api.Node, Mark: 1 - int(e/4%2)})
		b.worked(e + 3)
		same(t, "what is in limbo", b.head(1), api.Header{Kind: api.Limbo, Mark: int(e / 4 % 2), Stamp: int(e) + 3})
	}
}

// P15.1, P15.2: gray slots that were left over: a mark goes through them, and none is gray behind it.
func TestLeftOverGrays(t *testing.T) {
	for _, stack := range []int{0, 1, 64} {
		b := bare(t, config(4, stack))
		b.heads(0, api.Header{Kind: api.Node, Mark: 1, Gray: true, Arity: 1})
		b.m.Store(plan.Body(b.c, 0, 0), 2)
		b.record(1, 2, 1, none)
		b.heads(2, api.Header{Kind: api.Node})
		b.heads(3, api.Header{Kind: api.Record, Gray: true}) // nobody's, and not marked
		b.m.Store(plan.Grays, 2)
		if n := b.till(4); n > collect.Bound(b.c) {
			t.Errorf("%d steps, and Bound is %d", n, collect.Bound(b.c))
		}
		b.kinds(api.Node, api.Record, api.Node, api.Limbo)
		same(t, "gray slots", shade.Grays(b.c, b.m.Words()), 0)
		same(t, "grays", b.m.Words()[plan.Grays], 0)
		b.worked(8)
		b.kinds(api.Free, api.Free, api.Free, api.Free)
	}
}

// P15.1: two of them have nothing in common but the memories that they are given.
func TestTwo(t *testing.T) {
	a, b := newBench(t, config(3, 1)), newBench(t, config(3, 1))
	a.till(7)
	same(t, "the other one's E", b.k.E, 0)
	b.till(2)
	same(t, "E", a.k.E, 7)
	a.till(9)
	same(t, "the other one's Cycles", b.k.Cycles, 0)
}
