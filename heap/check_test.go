package heap_test

import (
	"math"
	"testing"

	"withy/api"
	"withy/heap"
	"withy/plan"
)

// P23.2: the constants' values.
func TestConstants(t *testing.T) {
	for want, got := range []int{heap.Right, heap.BadWords, heap.BadHead, heap.BadSlot, heap.BadList, heap.BadGrays} {
		same(t, "a constant", got, want)
	}
}

// P23.2, and the chapter's example: a new memory is right.
func TestNewMemoryIsRight(t *testing.T) {
	for _, c := range configs() {
		newBench(t, c).check(heap.Right)
	}
}

// graph is right words of nine slots: a node with two fields, one of which has had two values, another one that its walk began with, one free, one in limbo, and one dead.
func graph(t *testing.T) *bench {
	k := newBench(t, config(9, 2, 2, 2))
	k.node(0, 2, none)
	k.node(1)
	k.record(2, 1, 6, 3)
	k.record(3, 4, 4, none)
	k.node(4, none, none)
	k.heads(5, api.Header{Kind: api.Limbo, Arity: 2, Stamp: 3})
	k.heads(6, api.Header{Kind: api.Dead, Gen: 8})
	k.heads(7, api.Header{Kind: api.Free, Gen: 2})
	k.heads(8, api.Header{Kind: api.Free})
	k.holds(0, 1, 0)
	k.starts(1, 4)
	k.views(1, 5+2)
	k.clock(7)
	k.lists(8, 7)
	return k
}

// P23.2: right words, that stay so when what is named by nobody is changed.
func TestRight(t *testing.T) {
	k := graph(t)
	k.check(heap.Right)
	k.reached(0, 1, 2, 3, 4)
	k.words[plan.Body(k.c, 5, 0)] = 7
	k.words[plan.Body(k.c, 6, 0)] = 6
	k.words[plan.Body(k.c, 7, 0)] = 7
	k.words[plan.Body(k.c, 1, 0)] = 7
	k.check(heap.Right)
	k.holds(0, 1, none)
	k.starts(1, none)
	k.node(0, 5, 6)
	k.record(2, 7, 6, 8)
	k.check(heap.Right)
}

// P23.2: words that aren't as many as the plan has, and configs that aren't right: BadWords, whatever they say.
func TestBadWords(t *testing.T) {
	for _, c := range configs() {
		n := plan.Size(c)
		for _, m := range []int{0, 1, n - 1, n, n + 1, 2 * n, api.MaxWords} {
			for _, w := range []uint64{0, 1, 5, math.MaxUint64} {
				words := make([]uint64, m)
				for i := range words {
					words[i] = w
				}
				is := heap.Check(c, words) == heap.BadWords
				same(t, "BadWords", is, m != n)
				same(t, "Reached is nothing", heap.Reached(c, words) == nil, m != n)
				same(t, "Needed is nothing", heap.Needed(c, words) == nil, m != n)
				if m != n {
					same(t, "fields", len(heap.Fields(c, words, 0)), 0)
				}
			}
		}
		same(t, "Check of nil", heap.Check(c, nil), heap.BadWords)
	}
}

// P23.2: a slot's header that is no right one, whichever slot's it is, and whatever that was.
func TestBadHead(t *testing.T) {
	for slot := range 9 {
		for _, w := range noHeaders() {
			k := graph(t)
			k.words[plan.Header(k.c, slot)] = w
			k.check(heap.BadHead)
		}
	}
	k := newBench(t, greatest())
	k.words[plan.Header(k.c, 63)] = 1 << 9
	k.check(heap.BadHead)
	k.words[plan.Header(k.c, 63)] = 1 << 5
	k.check(heap.Right)
}

// P23.2: a root that is no slot that lives, by each entry and each start.
func TestBadRoots(t *testing.T) {
	for slot := 5; slot < 9; slot++ {
		for who := range 2 {
			for i := range 2 {
				k := graph(t)
				k.holds(who, i, slot)
				k.check(heap.BadSlot)
			}
			k := graph(t)
			k.starts(who, slot)
			k.check(heap.BadSlot)
		}
	}
}

// P23.2: what a reached slot names is no slot that lives: by a field, a value, or the next older one, also of one that no view needs; a word that names no slot names nothing.
func TestBadNames(t *testing.T) {
	for _, at := range [][2]int{{0, 0}, {0, 1}, {2, value}, {2, older}, {3, value}, {3, older}, {4, 0}, {4, 1}} {
		for slot := 5; slot < 9; slot++ {
			k := graph(t)
			k.words[plan.Body(k.c, at[0], at[1])] = uint64(slot + 1)
			k.check(heap.BadSlot)
			k.views(1, 0)
			k.check(heap.BadSlot)
		}
		for _, w := range strangers(graph(t).c) {
			k := graph(t)
			k.words[plan.Body(k.c, at[0], at[1])] = w
			k.check(heap.Right)
		}
	}
	for _, w := range strangers(graph(t).c) {
		k := graph(t)
		k.words[plan.Start(k.c, 0)] = w
		k.check(heap.Right)
		k.words[plan.Entry(k.c, 1, 1)] = w &^ (1<<32 - 1)
		k.check(heap.Right)
	}
}

// P23.2: a field beyond what the arity says, and a record's stamp, name nothing.
func TestNoNames(t *testing.T) {
	for slot := range 9 {
		k := graph(t)
		k.words[plan.Body(k.c, 0, 2)] = uint64(slot + 1)
		k.words[plan.Body(k.c, 1, 0)] = uint64(slot + 1)
		k.words[plan.Body(k.c, 2, stamp)] = uint64(slot + 1)
		k.check(heap.Right)
	}
}

// P23.2: a reached slot in the free list, wherever it stands there, and whether it is reached as a root, by a field or by an older record.
func TestReachedInTheList(t *testing.T) {
	for slot := range 5 {
		for _, list := range [][]int{{slot}, {slot, 7, 8}, {8, slot, 7}, {8, 7, slot}, {7, 6, slot}, {slot, slot}} {
			k := graph(t)
			k.lists(list...)
			k.check(heap.BadSlot)
		}
	}
	k := graph(t)
	k.lists(8, 7)
	k.words[plan.Link(k.c, 7)] = 5 // what the last link says is there, too
	k.check(heap.BadSlot)
	k.words[plan.Link(k.c, 7)] = 10
	k.check(heap.Right)
}

// P23.2: a slot in the free list that isn't Free, wherever it stands there.
func TestListOfOthers(t *testing.T) {
	for _, slot := range []int{0, 2, 3, 5, 6} {
		for _, list := range [][]int{{slot}, {slot, 7, 8}, {8, slot, 7}, {8, 7, slot}} {
			k := graph(t)
			k.holds(0, 1, none)
			k.lists(list...)
			k.check(heap.BadList)
		}
	}
}

// P23.2: a free list that runs in a ring, of whatever length; also of all slots, where the first ones each stand there once.
func TestRings(t *testing.T) {
	for _, c := range configs() {
		for from := range c.Slots {
			k := newBench(t, c)
			k.words[plan.Link(c, c.Slots-1)] = uint64(from + 1)
			k.check(heap.BadList)
			k.words[plan.Link(c, c.Slots-1)] = uint64(c.Slots + 1)
			k.check(heap.Right)
		}
		k := newBench(t, c)
		k.words[plan.Link(c, 0)] = 1
		k.check(heap.BadList)
	}
}

// P23.2: a free list that is cut short is at its end all the same: a free slot needn't be there, because it may be somebody's who takes it or lays it back; and one whose link is beyond the slots is at its end.
func TestCutShort(t *testing.T) {
	for _, c := range configs() {
		for slot := range c.Slots {
			for _, w := range []uint64{0, uint64(c.Slots) + 1, 1 << 16, 1<<32 + 1, math.MaxUint64} {
				k := newBench(t, c)
				k.words[plan.Link(c, slot)] = w
				k.check(heap.Right)
			}
		}
		k := newBench(t, c)
		k.words[plan.Top] = 3 << 16
		k.check(heap.Right)
		k.words[plan.Top] = 3<<16 + uint64(c.Slots) + 1
		k.check(heap.Right)
	}
}

// P23.2: the grays are as many as the gray slots, one more, and one fewer; gray slots of all kinds count.
func TestBadGrays(t *testing.T) {
	for _, slots := range [][]int{nil, {0}, {2, 3}, {0, 1, 2, 3, 4}, {5, 6}, {7}, {0, 1, 2, 3, 4, 5, 6, 7, 8}} {
		k := graph(t)
		for _, slot := range slots {
			k.words[plan.Header(k.c, slot)] |= 16
		}
		n := uint64(len(slots))
		for _, grays := range []uint64{n, n + 1, n + 9, 1 << 63, math.MaxUint64} {
			k.words[plan.Grays] = grays
			k.check(heap.Right)
		}
		for grays := range n {
			k.words[plan.Grays] = grays
			k.check(heap.BadGrays)
		}
	}
	k := newBench(t, greatest())
	for slot := range 64 {
		k.words[plan.Header(k.c, slot)] |= 16
	}
	k.words[plan.Grays] = 63
	k.check(heap.BadGrays)
	k.words[plan.Grays] = 64
	k.check(heap.Right)
}

// faults are what makes right words bad, by what Check answers then.
func faults() []func(k *bench) {
	return []func(k *bench){
		func(*bench) {},
		func(k *bench) { k.words = k.words[1:] },
		func(k *bench) { k.words[plan.Header(k.c, 6)] = 7 },
		func(k *bench) { k.starts(0, 5) },
		func(k *bench) { k.lists(8, 5, 7) },
		func(k *bench) { k.words[plan.Header(k.c, 1)] |= 16 },
	}
}

// P23.2: of several faults the first one is told.
func TestFirstFault(t *testing.T) {
	for which := range 1 << 6 {
		k := graph(t)
		want := heap.Right
		for fault := 5; fault > 0; fault-- {
			if which>>fault&1 == 1 {
				faults()[fault](k)
				want = fault
			}
		}
		k.check(want)
	}
	k := graph(t)
	k.lists(8, 4, 5)
	k.check(heap.BadSlot)
	k.starts(1, none)
	k.words[plan.Body(k.c, 3, value)] = 0
	k.check(heap.BadList)
}
