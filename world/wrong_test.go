package world_test

import (
	"math"
	"slices"
	"testing"

	"withy/api"
	"withy/heap"
	"withy/plan"
	"withy/world"
)

// P22.1: no worlds of configs that aren't right.
func TestWrongConfigs(t *testing.T) {
	for _, c := range wrongConfigs() {
		for _, l := range [][][]api.Op{nil, {}, {nil}, {{makes(0)}}} {
			if world.New(c, l) != nil {
				t.Errorf("New(%+v, %v): a world", c, l)
			}
		}
	}
}

// tellsNothing holds what a world tells against what a nil one does.
func tellsNothing(t *testing.T, w *world.World) {
	t.Helper()
	for _, who := range []int{math.MinInt, -1, 0, 1, 2, 8, math.MaxInt} {
		same(t, "Pick", w.Pick(who), false)
		same(t, "Busy", w.Busy(who), false)
		same(t, "Told", len(w.Told(who)), 0)
		for _, h := range []uint64{0, handle(0, 0, 1), math.MaxUint64} {
			same(t, "Holds", w.Holds(who, h), none)
		}
	}
	same(t, "Run", w.Run(nil), 0)
	same(t, "Run", w.Run([]int{0, 1, 2, 0}), 0)
	same(t, "Rest", w.Rest(), false)
	same(t, "Now", w.Now(), 0)
	same(t, "Done", w.Done(), false)
	same(t, "Events", len(w.Events()), 0)
	same(t, "Words", len(w.Words()), 0)
	same(t, "Touches", w.Touches(), 0)
	same(t, "Last", w.Last(), api.Touch{})
	same(t, "Epoch", w.Epoch(), 0)
	same(t, "Cycles", w.Cycles(), 0)
}

// P22.1: of a nil world all is 0, false and nothing.
func TestNilWorld(t *testing.T) {
	tellsNothing(t, nil)
	tellsNothing(t, world.New(api.Config{}, nil))
	tellsNothing(t, world.New(least(), [][]api.Op{nil, nil}))
	tellsNothing(t, world.New(least(), [][]api.Op{ops(65)}))
}

// Rule 5: a world that no maker made does no harm.
func TestUnmade(t *testing.T) {
	tellsNothing(t, &world.World{})
}

// P22.4: of no client: not busy, nothing told, nothing held; the collector is none.
func TestWrongClients(t *testing.T) {
	for _, c := range configs() {
		k := newBench(t, c, []api.Op{makes(0), release(own(0))})
		k.ends(0)
		k.pick(0)
		for _, who := range append(noPicks(c), c.Clients) {
			same(t, "Busy", k.w.Busy(who), false)
			same(t, "Told", len(k.w.Told(who)), 0)
			same(t, "Holds", k.w.Holds(who, handle(0, 0, 1)), none)
			same(t, "Holds", k.w.Holds(who, 0), none)
		}
		same(t, "Busy", k.w.Busy(0), true)
		same(t, "Holds", k.w.Holds(0, handle(0, 0, 1)), 0)
	}
}

// odd are operations with numbers that are none of a kind, a field, an arity or an argument's.
func odd() []api.Op {
	var l []api.Op
	numbers := []int{math.MinInt, -1 << 32, -1, 0, 1, 9, 15, 255, 1 << 32, 1<<32 + 1, math.MaxInt}
	for _, n := range numbers {
		for _, m := range numbers {
			l = append(l, api.Op{Kind: n, N: m}, api.Op{Kind: api.Load, N: n, H: own(0), X: api.Arg{Of: m, Client: n}})
			for _, kind := range []int{api.Link, api.Swap, api.Open, api.Next, api.Same, api.Release, api.Close} {
				l = append(l, api.Op{Kind: kind, N: n, H: api.Arg{Of: n, Client: m, Raw: uint64(m)}, X: api.Arg{Of: m, Client: n}, Y: raw(uint64(n))})
			}
		}
	}
	return l
}

// P22.5: operations that are none, or that are of what isn't there: no pick panics, each is over, and what they are answered a model takes; what isn't theirs is as it was.
func TestOddOperations(t *testing.T) {
	c := config(5, 1, 2, 2)
	l := odd()
	for len(l) > 0 {
		n := min(len(l), 60)
		program := append([]api.Op{makes(1), link(own(0), 0, own(0))}, l[:n]...)
		l = l[n:]
		k := newBench(t, c, program, []api.Op{makes(1), link(own(0), 0, own(0)), load(own(0), 0)})
		k.ends(1)
		k.ends(1)
		same(t, "answers", len(k.alone(0)), len(program))
		k.rests()
		k.right()
		k.answers(1, gives(handle(1, 1, 1)))
		same(t, "what is another one's", k.w.Holds(1, handle(1, 1, 1)), k.w.Holds(1, handle(1, 0, 1)))
	}
}

// forged are numbers by which a client doesn't hold anything, though it holds, or held, by this one: each that is turned in a bit, and those of others.
func forged(h uint64) []uint64 {
	l := []uint64{0, 1, math.MaxUint64, h + 1, h - 1}
	for bit := range 64 {
		l = append(l, h^1<<bit)
	}
	return l
}

// P5: whatever numbers a client calls with: nothing of its own, and nothing of another one's, is changed by those that are none of its handles.
func TestForgedHandles(t *testing.T) {
	c := config(9, 2, 2, 2)
	for _, kind := range []int{api.Load, api.Link, api.Unlink, api.Swap, api.Release, api.Same, api.Open, api.Next, api.Close} {
		for _, h := range append(forged(handle(0, 0, 1)), handle(1, 0, 1), handle(0, 1, 1), handle(0, 255, 1)) {
			k := newBench(t, c, []api.Op{makes(2), {Kind: kind, H: raw(h), X: own(0), Y: own(0)}}, []api.Op{makes(2)})
			k.ends(1)
			k.ends(0)
			words := k.w.Words()
			k.ends(0)
			if err := k.last().Answer.Err; err != api.ErrHandle && err != api.ErrDone {
				t.Errorf("%d by %x: %d", kind, h, err)
			}
			if !slices.Equal(k.w.Words(), words) {
				t.Errorf("%d by %x changed the words", kind, h)
			}
		}
	}
}

// P5: a handle that was let go isn't held any more, also when its slot is given again; its generation isn't used twice.
func TestReleasedHandles(t *testing.T) {
	c := api.Config{Slots: 1, Arity: 1, Clients: 1, Handles: 1, Gens: 9}
	l := []api.Op{makes(1), release(own(0)), makes(1), load(own(0), 0), release(own(0)), compare(own(0), own(2)), opens(own(0)), load(own(2), 0)}
	k := newBench(t, c, l)
	k.answers(0, gives(handle(0, 0, 1)), ok)
	k.rests()
	bad := only(api.ErrHandle)
	k.answers(0, gives(handle(0, 0, 2)), bad, bad, bad, bad, ok)
	same(t, "the generation", k.head(0).Gen, 1)
	same(t, "reached", heap.Reached(c, k.w.Words())[0], true)
	same(t, "the entry", k.w.Words()[plan.Entry(c, 0, 0)], 2<<32+1)
}
