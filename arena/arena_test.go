package arena_test

import (
	"math"
	"slices"
	"testing"

	"withy/api"
	"withy/arena"
	"withy/head"
	"withy/mem"
	"withy/plan"
)

// P12.1, P12.2: the document's first example, touch by touch: a slot of the one generation that there is.
func TestExampleOfOneGeneration(t *testing.T) {
	k := newBench(t, api.Config{Slots: 1, Arity: 1, Clients: 1, Handles: 1, Gens: 1})
	at := plan.Header(k.c, 0)
	a := arena.NewMake(k.c, api.Node, 1, 0, []uint64{8, 9})
	isMake(t, a, none, false)
	k.step(a, false, load(plan.Top, 1))
	k.step(a, false, load(plan.Link(k.c, 0), 0))
	k.step(a, false, swap(1, perTag))
	k.step(a, false, load(at, 0))
	k.step(a, false, store(plan.Body(k.c, 0, 0), 0, 8))
	k.step(a, false, store(plan.Body(k.c, 0, 1), 0, 9))
	k.step(a, false, store(plan.Body(k.c, 0, 2), 0, 0))
	isMake(t, a, none, false)
	node := header(t, api.Header{Kind: api.Node, Arity: 1})
	k.step(a, true, store(at, 0, node))
	isMake(t, a, 0, false)
	k.over(a)
	isMake(t, a, 0, false)

	limbo, ok := head.Retired(node, 3)
	same(t, "Retired", ok, true)
	k.m.Store(at, limbo)
	f := arena.NewFree(k.c, 0)
	isFree(t, f, false, false)
	k.step(f, false, load(at, limbo))
	isFree(t, f, false, false)
	k.step(f, true, store(at, limbo, header(t, api.Header{Kind: api.Dead, Arity: 1, Stamp: 3})))
	isFree(t, f, false, true)
	k.over(f)
	isFree(t, f, false, true)
	k.has()
	b := arena.NewMake(k.c, api.Node, 0, 4, nil)
	k.step(b, true, load(plan.Top, perTag))
	isMake(t, b, none, true)
}

// P12.1, P12.2: the document's second example, touch by touch: with two generations the slot is free again, and once more something.
func TestExampleOfTwoGenerations(t *testing.T) {
	k := newBench(t, api.Config{Slots: 1, Arity: 1, Clients: 1, Handles: 1, Gens: 2})
	at := plan.Header(k.c, 0)
	a := arena.NewMake(k.c, api.Node, 1, 0, []uint64{8, 9})
	same(t, "steps", k.ends(a), 8)
	limbo, _ := head.Retired(k.m.Words()[at], 3)
	k.m.Store(at, limbo)
	f := arena.NewFree(k.c, 0)
	k.step(f, false, load(at, limbo))
	k.step(f, false, store(at, limbo, 1<<16))
	k.has()
	k.step(f, false, load(plan.Top, perTag))
	k.step(f, false, store(plan.Link(k.c, 0), 0, 0))
	isFree(t, f, false, false)
	k.step(f, true, swap(perTag, 2*perTag+1))
	isFree(t, f, true, false)
	k.over(f)
	isFree(t, f, true, false)
	k.is(0, api.Header{Gen: 1})
	k.has(0)

	b := arena.NewMake(k.c, api.Record, 0, 6, []uint64{5})
	k.step(b, false, load(plan.Top, 2*perTag+1))
	k.step(b, false, load(plan.Link(k.c, 0), 0))
	k.step(b, false, swap(2*perTag+1, 3*perTag))
	k.step(b, false, load(at, 1<<16))
	k.step(b, false, store(plan.Body(k.c, 0, 0), 8, 5))
	k.step(b, false, store(plan.Body(k.c, 0, 1), 9, 0))
	k.step(b, false, store(plan.Body(k.c, 0, 2), 0, 0))
	isMake(t, b, none, false)
	k.step(b, true, store(at, 1<<16, header(t, api.Header{Kind: api.Record, Gen: 1})))
	isMake(t, b, 0, false)
	isMake(t, a, 0, false)
	k.retires(0)
	back, gone := k.frees(0)
	same(t, "Back", back, false)
	same(t, "Gone", gone, true)
	k.is(0, api.Header{Kind: api.Dead, Gen: 1})
}

// P12.1: all slots are made something, one after the other, each with words of its own; then it is full, as often as one asks.
func TestAllSlots(t *testing.T) {
	for _, c := range configs() {
		k := newBench(t, c)
		for slot := range c.Slots {
			body := slices.Repeat([]uint64{uint64(slot) + 1}, bodySize(c))
			kind, arity := api.Node, slot%(c.Arity+1)
			if slot%3 == 1 {
				kind, arity = api.Record, 0
			}
			a := arena.NewMake(c, kind, arity, uint64(slot), body)
			same(t, "steps", k.ends(a), 5+bodySize(c))
			isMake(t, a, slot, false)
			k.is(slot, api.Header{Kind: kind, Mark: born(uint64(slot)), Arity: arity})
		}
		k.has()
		words := k.m.Words()
		for range 3 {
			a := arena.NewMake(c, api.Node, 0, 0, nil)
			same(t, "steps", k.ends(a), 1)
			isMake(t, a, none, true)
		}
		if !slices.Equal(k.m.Words(), words) {
			t.Fatalf("%+v: a Make that is Full changed words", c)
		}
		for slot := range c.Slots {
			want := slices.Repeat([]uint64{uint64(slot) + 1}, bodySize(c))
			if got := arena.Body(c, words, slot); !slices.Equal(got, want) {
				t.Fatalf("%+v: the slot %d's body is %v", c, slot, got)
			}
		}
	}
}

// P12.2, P12.3: all slots come back, one after the other, and the last one that came is the first to be made something.
func TestAllComeBack(t *testing.T) {
	for _, c := range []api.Config{config(1, 2), config(5, 2), greatest()} {
		k := newBench(t, c)
		var want []int
		for slot := range c.Slots {
			same(t, "Slot", k.makes(api.Node), slot)
			k.retires(slot)
		}
		for slot := range c.Slots {
			back, gone := k.frees(slot)
			same(t, "Back", back, true)
			same(t, "Gone", gone, false)
			want = append([]int{slot}, want...)
			k.has(want...)
		}
		for _, slot := range want {
			same(t, "Slot", k.makes(api.Record), slot)
			k.is(slot, api.Header{Kind: api.Record, Gen: 1})
		}
	}
}

// P12.3: one slot is made something as often as its generations are, each time of one more, and then never again: up to the most that there may be.
func TestGenerations(t *testing.T) {
	for _, gens := range []int{1, 2, 3, 17, api.MaxGens} {
		k := newBench(t, config(1, gens))
		for gen := range gens {
			same(t, "Slot", k.makes(api.Node), 0)
			same(t, "header", k.m.Load(plan.Header(k.c, 0)), api.Node+uint64(gen)<<16)
			k.m.Store(plan.Header(k.c, 0), api.Limbo+uint64(gen)<<16)
			back, gone := k.frees(0)
			same(t, "Back", back, gen < gens-1)
			same(t, "Gone", gone, gen == gens-1)
		}
		k.is(0, api.Header{Kind: api.Dead, Gen: gens - 1})
		back, gone := k.frees(0)
		same(t, "Back or Gone", back || gone, false)
		same(t, "Slot", k.makes(api.Node), none)
	}
}

// P12.1, P12.3: two that make, step by step in turn: the second one begins anew, and gets another slot.
func TestTwoMakes(t *testing.T) {
	k := newBench(t, config(3, 1))
	a := arena.NewMake(k.c, api.Node, 0, 1, []uint64{1, 1, 1})
	b := arena.NewMake(k.c, api.Record, 0, 1, []uint64{2, 2, 2})
	k.step(a, false, load(plan.Top, 1))
	k.step(b, false, load(plan.Top, 1))
	k.step(a, false, load(plan.Link(k.c, 0), 2))
	k.step(b, false, load(plan.Link(k.c, 0), 2))
	k.step(a, false, swap(1, perTag+2))
	k.step(b, false, swap(perTag+2, perTag+2))
	k.step(a, false, load(plan.Header(k.c, 0), 0))
	k.step(b, false, load(plan.Top, perTag+2))
	k.step(a, false, store(plan.Body(k.c, 0, 0), 0, 1))
	k.step(b, false, load(plan.Link(k.c, 1), 3))
	k.step(a, false, store(plan.Body(k.c, 0, 1), 0, 1))
	k.step(b, false, swap(perTag+2, 2*perTag+3))
	k.step(a, false, store(plan.Body(k.c, 0, 2), 0, 1))
	k.step(b, false, load(plan.Header(k.c, 1), 0))
	k.step(a, true, store(plan.Header(k.c, 0), 0, header(t, api.Header{Kind: api.Node, Mark: 1})))
	for i := range 3 {
		k.step(b, false, store(plan.Body(k.c, 1, i), 0, 2))
	}
	k.step(b, true, store(plan.Header(k.c, 1), 0, header(t, api.Header{Kind: api.Record, Mark: 1})))
	isMake(t, a, 0, false)
	isMake(t, b, 1, false)
	k.has(2)
}

// P12.1: a free list that becomes empty between a Make's load and its swap: it begins anew, and is Full.
func TestBecomesEmptyUnderAMake(t *testing.T) {
	for _, stopped := range []int{1, 2} {
		k := newBench(t, config(1, 1))
		a := arena.NewMake(k.c, api.Node, 0, 0, nil)
		for range stopped {
			same(t, "Step", a.Step(k.m), false)
		}
		same(t, "Slot", k.makes(api.Record), 0)
		if stopped == 1 {
			k.step(a, false, load(plan.Link(k.c, 0), 0))
		}
		k.step(a, false, swap(perTag, perTag))
		isMake(t, a, none, false)
		k.step(a, true, load(plan.Top, perTag))
		isMake(t, a, none, true)
		k.over(a)
		k.is(0, api.Header{Kind: api.Record})
	}
}

// P12.1: a free list that gets a slot between a Make's load and its swap: it begins anew, and takes that one, of its generation.
func TestGetsASlotUnderAMake(t *testing.T) {
	k := newBench(t, config(2, 5))
	same(t, "Slot", k.makes(api.Node), 0)
	k.retires(0)
	a := arena.NewMake(k.c, api.Node, 0, 0, nil)
	k.step(a, false, load(plan.Top, perTag+2))
	k.step(a, false, load(plan.Link(k.c, 1), 0))
	k.frees(0)
	k.step(a, false, swap(2*perTag+1, 2*perTag+1))
	k.ends(a)
	isMake(t, a, 0, false)
	k.is(0, api.Header{Kind: api.Node, Gen: 1})
	k.has(1)
}

// P12.1: a Make that is Full stays so, though the free list gets a slot behind it; the next one has that one.
func TestGetsASlotBehindAMake(t *testing.T) {
	k := newBench(t, config(1, 2))
	k.makes(api.Node)
	k.retires(0)
	f := arena.NewFree(k.c, 0)
	a := arena.NewMake(k.c, api.Node, 0, 0, nil)
	for range 4 {
		same(t, "Step", f.Step(k.m), false)
	}
	k.step(a, true, load(plan.Top, perTag))
	k.step(f, true, swap(perTag, 2*perTag+1))
	k.over(a)
	isMake(t, a, none, true)
	k.has(0)
	same(t, "Slot", k.makes(api.Node), 0)
}

// P12.1, P12.3: a slot that was made something and came back between a Make's load and its swap: the top names it again, with another tag, and the Make begins anew.
func TestComesBackUnderAMake(t *testing.T) {
	k := newBench(t, config(3, 4))
	a := arena.NewMake(k.c, api.Node, 0, 0, nil)
	k.step(a, false, load(plan.Top, 1))
	k.step(a, false, load(plan.Link(k.c, 0), 2))
	same(t, "Slot", k.makes(api.Node), 0)
	same(t, "Slot", k.makes(api.Record), 1)
	k.retires(0)
	k.frees(0)
	k.step(a, false, swap(3*perTag+1, 3*perTag+1))
	k.ends(a)
	isMake(t, a, 0, false)
	k.is(0, api.Header{Kind: api.Node, Gen: 1})
	k.is(1, api.Header{Kind: api.Record})
	k.has(2)
}

// P12.2: a free list that becomes empty, or gets a slot, between a Free's load and its swap: the slot is laid anew, and the header isn't touched again.
func TestMovesUnderAFree(t *testing.T) {
	k := newBench(t, config(3, 4))
	for range 2 {
		k.makes(api.Node)
	}
	k.retires(0)
	k.retires(1)
	f := arena.NewFree(k.c, 1)
	for range 4 {
		same(t, "Step", f.Step(k.m), false)
	}
	same(t, "Slot", k.makes(api.Record), 2)
	k.step(f, false, swap(3*perTag, 3*perTag))
	k.step(f, false, load(plan.Top, 3*perTag))
	k.step(f, false, store(plan.Link(k.c, 1), 3, 0))
	k.frees(0)
	k.step(f, false, swap(4*perTag+1, 4*perTag+1))
	isFree(t, f, false, false)
	k.has(0)
	k.step(f, false, load(plan.Top, 4*perTag+1))
	k.step(f, false, store(plan.Link(k.c, 1), 0, 1))
	k.step(f, true, swap(4*perTag+1, 5*perTag+2))
	isFree(t, f, true, false)
	k.has(1, 0)
	k.is(1, api.Header{Gen: 1})
}

// P12.1: the generation is that of the header when it is loaded, behind the taking; what it becomes later changes nothing.
func TestGenerationWhenLoaded(t *testing.T) {
	k := newBench(t, config(1, 9))
	a := arena.NewMake(k.c, api.Node, 0, 0, nil)
	for range 3 {
		same(t, "Step", a.Step(k.m), false)
	}
	k.heads(0, api.Header{Gen: 5})
	k.step(a, false, load(plan.Header(k.c, 0), 5<<16))
	k.heads(0, api.Header{Gen: 6})
	k.ends(a)
	k.is(0, api.Header{Kind: api.Node, Gen: 5})
}

// P12.2: a Free works by the header as it is when it is loaded: a slot that is sent to limbo behind that isn't freed by it, one that is ahead of it is.
func TestLimboWhenLoaded(t *testing.T) {
	k := newBench(t, config(2, 3))
	k.makes(api.Node)
	late := arena.NewFree(k.c, 0)
	k.step(late, true, load(plan.Header(k.c, 0), api.Node))
	k.retires(0)
	k.over(late)
	isFree(t, late, false, false)
	k.is(0, api.Header{Kind: api.Limbo})

	k.makes(api.Record)
	ahead := arena.NewFree(k.c, 1)
	k.retires(1)
	k.ends(ahead)
	isFree(t, ahead, true, false)
}

// P12.1, P2.4: to make a machine is no touch, and it works by what the memory is when its steps come.
func TestMadeAhead(t *testing.T) {
	c := config(3, 4)
	a, f := arena.NewMake(c, api.Record, 0, 5, []uint64{3}), arena.NewFree(c, 2)
	k := newBench(t, c)
	k.lists(0)
	k.heads(2, api.Header{Kind: api.Limbo, Gen: 1})
	before := k.m.Touches()
	same(t, "a Free's steps", k.ends(f), 5)
	same(t, "a Make's steps", k.ends(a), 8)
	same(t, "touches", k.m.Touches(), before+13)
	isMake(t, a, 2, false)
	k.is(2, api.Header{Kind: api.Record, Gen: 2})
}

// Rule 4: the body that is handed in is neither changed nor kept, nor is its spare room looked at.
func TestMakeKeepsNothing(t *testing.T) {
	k := newBench(t, api.Config{Slots: 1, Arity: 6, Clients: 1, Handles: 1, Gens: 1})
	body := []uint64{1, 2, 3, 4, 5, 6, 7, 8}
	a := arena.NewMake(k.c, api.Node, 6, 0, body[:3])
	for i := range 7 {
		body[i%3] = 99
		same(t, "Step", a.Step(k.m), false)
	}
	k.ends(a)
	if !slices.Equal(body, []uint64{99, 99, 99, 4, 5, 6, 7, 8}) {
		t.Errorf("the body that was handed in is %v", body)
	}
	if got := arena.Body(k.c, k.m.Words(), 0); !slices.Equal(got, []uint64{1, 2, 3, 0, 0, 0}) {
		t.Errorf("the slot's body is %v", got)
	}
}

// Rule 4: a machine that is under way has nothing in common with another one of the same words.
func TestMakesShareNothing(t *testing.T) {
	k := newBench(t, config(2, 1))
	body := []uint64{1, 2, 3}
	a, b := arena.NewMake(k.c, api.Node, 0, 0, body), arena.NewMake(k.c, api.Node, 0, 0, body)
	for range 6 {
		a.Step(k.m)
	}
	k.ends(b)
	k.ends(a)
	isMake(t, a, 0, false)
	isMake(t, b, 1, false)
	for slot := range 2 {
		if got := arena.Body(k.c, k.m.Words(), slot); !slices.Equal(got, body) {
			t.Errorf("the slot %d's body is %v", slot, got)
		}
	}
}

// numbered are a memory's words, each of another number.
func numbered(c api.Config) []uint64 {
	words := make([]uint64, plan.Size(c))
	for at := range words {
		words[at] = math.MaxUint64 - uint64(at)
	}
	return words
}

// P12.2: each slot's body, from its first word to its last, whatever the words are.
func TestBody(t *testing.T) {
	for _, c := range configs() {
		words := numbered(c)
		for slot := range c.Slots {
			var want []uint64
			for at, w := range words {
				if plan.Slot(c, at) == slot && at != plan.Header(c, slot) && at != plan.Link(c, slot) {
					want = append(want, w)
				}
			}
			same(t, "words of a body", len(want), bodySize(c))
			if got := arena.Body(c, words, slot); !slices.Equal(got, want) {
				t.Fatalf("%+v, the slot %d: %x, want %x", c, slot, got, want)
			}
		}
		if got := arena.Body(c, mem.New(plan.Size(c)).Words(), 0); !slices.Equal(got, make([]uint64, bodySize(c))) {
			t.Fatalf("%+v, words of 0: %v", c, got)
		}
	}
}

// Rule 4: the words that are handed in stay as they were, their spare room too, and what is answered is new, with its spare room.
func TestBodyKeepsNothing(t *testing.T) {
	c := api.Config{Slots: 3, Arity: 5, Clients: 1, Handles: 1, Gens: 1}
	size := plan.Size(c)
	words := append(numbered(c), 71, 72, 73)
	before := slices.Clone(words)
	for slot := range c.Slots {
		first, second := arena.Body(c, words[:size], slot), arena.Body(c, words[:size], slot)
		want := slices.Clone(second)
		for i := range first[:cap(first)] {
			first[:cap(first)][i] = 99
		}
		if !slices.Equal(words, before) || !slices.Equal(second, want) || !slices.Equal(arena.Body(c, words[:size], slot), want) {
			t.Fatalf("the slot %d: what is answered is shared", slot)
		}
	}
}
