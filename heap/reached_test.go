package heap_test

import (
	"testing"

	"withy/api"
	"withy/plan"
)

// P23.1, and the chapter's example: in a new memory nothing is reached, and nothing needed.
func TestNewMemory(t *testing.T) {
	for _, c := range configs() {
		k := newBench(t, c)
		k.reached()
		k.needed()
	}
}

// P23.1: the roots are what each entry of each client names, whatever its tag, and what each walk's start does.
func TestRoots(t *testing.T) {
	for _, c := range configs() {
		for who := range c.Clients {
			for slot := range c.Slots {
				for i := range c.Handles {
					k := newBench(t, c)
					k.node(slot)
					k.holds(who, i, slot)
					k.reached(slot)
					k.needed(slot)
					k.words[plan.Entry(c, who, i)] |= 0xFFFFFFFF << 32
					k.reached(slot)
				}
				k := newBench(t, c)
				k.node(slot)
				k.starts(who, slot)
				k.reached(slot)
				k.needed(slot)
			}
		}
	}
}

// P23.1: nothing else is a root: no pin, no view, no link, not the top, and no number beside them.
func TestNoRoots(t *testing.T) {
	for _, c := range configs() {
		k := newBench(t, c)
		for slot := range c.Slots {
			k.node(slot)
			k.words[plan.Link(c, slot)] = uint64(slot + 1)
		}
		for _, at := range []int{plan.Clock, plan.Epoch, plan.Grays, plan.Top} {
			k.words[at] = 1
		}
		for who := range c.Clients {
			k.words[plan.Pin(c, who)] = 1
			k.views(who, 1)
		}
		k.reached()
		k.needed()
	}
}

// P23.1: a word that names no slot of the config names nothing; an entry's does by its low bits alone, others by all.
func TestNamesNothing(t *testing.T) {
	for _, c := range configs() {
		k := newBench(t, c)
		for slot := range c.Slots {
			k.node(slot)
		}
		for _, w := range strangers(c) {
			k.words[plan.Start(c, 0)] = w
			k.reached()
			k.words[plan.Start(c, 0)] = 0
			k.words[plan.Entry(c, 0, 0)] = w
			if w&(1<<32-1) == 1 {
				k.reached(0)
			} else {
				k.reached()
			}
			k.record(0, none, 0, none)
			k.holds(0, 0, 0)
			for i := range bodySize(c) {
				k.words[plan.Body(c, 0, i)] = w
			}
			k.reached(0)
			k.node(0, make([]int, bodySize(c))...)
			for i := range bodySize(c) {
				k.words[plan.Body(c, 0, i)] = w
			}
			k.reached(0)
			k.node(0)
			k.words[plan.Entry(c, 0, 0)] = 0
		}
	}
}

// P23.1: only what lives is reached: neither what is free, in limbo or dead, nor what has no right header; and nothing through it.
func TestWhatLives(t *testing.T) {
	c := config(4, 2, 1, 2)
	lay := func(kind int) *bench {
		k := newBench(t, c)
		k.node(0, 1)
		k.node(2)
		k.heads(1, api.Header{Kind: kind, Arity: 2, Mark: 1, Gen: 3})
		k.words[plan.Body(c, 1, 0)] = 3
		k.words[plan.Body(c, 1, older)] = 3
		return k
	}
	for _, kind := range []int{api.Free, api.Node, api.Record, api.Limbo, api.Dead} {
		lives := kind == api.Node || kind == api.Record
		k := lay(kind)
		k.holds(0, 1, 1)
		if lives {
			k.reached(1, 2)
			k.needed(1, 2)
		} else {
			k.reached()
			k.needed()
		}
		k = lay(kind)
		k.holds(0, 0, 0)
		if lives {
			k.reached(0, 1, 2)
			k.needed(0, 1, 2)
		} else {
			k.reached(0)
			k.needed(0)
		}
	}
	for _, w := range noHeaders() {
		k := lay(api.Node)
		k.holds(0, 0, 0)
		k.holds(0, 1, 1)
		k.words[plan.Header(c, 1)] = w
		k.reached(0)
		k.needed(0)
	}
}

// P23.1: a node names by as many fields as its arity says, and by no more than its body has; by none of them another one needs to be named.
func TestNodes(t *testing.T) {
	for arity := range api.MaxArity + 1 {
		c := config(10, arity, 1, 1)
		for fields := range 16 {
			k := newBench(t, c)
			var want []int
			k.heads(9, api.Header{Kind: api.Node, Arity: fields})
			k.holds(0, 0, 9)
			for i := range bodySize(c) {
				k.node(i)
				k.words[plan.Body(c, 9, i)] = uint64(i + 1)
				if i < fields {
					want = append(want, i)
				}
			}
			k.reached(append(want, 9)...)
			k.needed(append(want, 9)...)
		}
	}
	k := newBench(t, config(5, 3, 1, 1))
	k.node(4, none, 2, none)
	k.node(2, 0, none, 4)
	k.node(0)
	k.node(1, 3)
	k.node(3, 1)
	k.holds(0, 0, 4)
	k.reached(0, 2, 4)
}

// P23.1: a record names its value and its next older one, and nothing by its stamp, nor by what lies behind; whatever its arity says.
func TestRecords(t *testing.T) {
	c := config(9, 6, 1, 1)
	k := newBench(t, c)
	for slot := range c.Slots {
		k.node(slot)
	}
	k.record(5, 7, 2, 8)
	k.clock(1)
	k.holds(0, 0, 5)
	for i := 3; i < 6; i++ {
		k.words[plan.Body(c, 5, i)] = uint64(i)
	}
	k.reached(5, 7, 8)
	k.needed(5, 7, 8)
	k.heads(5, api.Header{Kind: api.Record, Arity: 6})
	k.reached(5, 7, 8)
	k.record(5, none, 2, 8)
	k.reached(5, 8)
	k.record(5, 7, 2, none)
	k.reached(5, 7)
	k.record(5, none, 2, none)
	k.reached(5)
	k.record(5, 7, 2, 6)
	k.record(6, 8, 1, 4)
	k.record(4, 3, 1, 5)
	k.reached(3, 4, 5, 6, 7, 8)
}

// P23.1: marks, grays, generations and stamps of headers say nothing.
func TestHeadersSayNoMore(t *testing.T) {
	k := newBench(t, config(3, 1, 1, 1))
	k.holds(0, 0, 2)
	for mark := range 2 {
		for _, gray := range []bool{false, true} {
			for _, n := range []int{0, 1, 5, 1<<16 - 1} {
				k.node(2, 1)
				k.record(1, 0, 0, none)
				k.heads(2, api.Header{Kind: api.Node, Mark: mark, Gray: gray, Arity: 1, Gen: n, Stamp: n})
				k.heads(1, api.Header{Kind: api.Record, Mark: mark, Gray: gray, Gen: n, Stamp: n})
				k.heads(0, api.Header{Kind: api.Node, Mark: mark, Gray: gray, Gen: n, Stamp: n})
				k.reached(0, 1, 2)
				k.needed(0, 1, 2)
			}
		}
	}
}

// P23.1: rings end, and a row that goes through all slots is gone through whole, from its end to its beginning as well.
func TestRows(t *testing.T) {
	for _, c := range []api.Config{config(64, 1, 1, 1), config(2, 0, 1, 1), config(7, 8, 1, 2)} {
		var all []int
		up, down := newBench(t, c), newBench(t, c)
		for slot := range c.Slots {
			all = append(all, slot)
			up.record(slot, none, 0, (slot+1)%c.Slots)
			down.node(slot, (slot+c.Slots-1)%c.Slots)
		}
		for slot := range c.Slots {
			up.holds(0, 0, slot)
			down.holds(0, 0, slot)
			up.reached(all...)
			down.reached(all...)
		}
	}
	k := newBench(t, config(3, 2, 1, 1))
	k.node(1, 1, 1)
	k.holds(0, 0, 1)
	k.reached(1)
}

// old is a node whose field has a record of stamp 7, with older ones of 5 and 3, each of which has a value of its own.
func old(t *testing.T, c api.Config) *bench {
	k := newBench(t, c)
	k.node(0, 1)
	for i, at := range []uint64{7, 5, 3} {
		k.record(i+1, i+4, at, i+2)
		k.node(i + 4)
	}
	k.record(3, 6, 3, none)
	k.holds(0, 0, 0)
	k.clock(9)
	return k
}

// sees holds what is needed of old against how many of its records should be.
func (k *bench) sees(records int) {
	k.t.Helper()
	k.reached(0, 1, 2, 3, 4, 5, 6)
	var want []int
	for slot := range 7 {
		if slot == 0 || slot <= records || slot > 3 && slot <= 3+records {
			want = append(want, slot)
		}
	}
	k.needed(want...)
}

// P23.1: a record with a stamp of at most the least view names no older one: without walks that is the clock, else the least walk's, if that is less; at a record's stamp, one below and one above it.
func TestLeastView(t *testing.T) {
	c := config(8, 1, 3, 2)
	for _, n := range []struct {
		clock   uint64
		views   []uint64 // 1 is of one who is about to have a walk, 2 of the view 0
		records int
	}{
		{9, nil, 1}, {8, nil, 1}, {7, nil, 1}, {6, nil, 2}, {5, nil, 2}, {4, nil, 3}, {3, nil, 3}, {2, nil, 3}, {0, nil, 3}, {1<<64 - 1, nil, 1},
		{9, []uint64{8 + 2}, 1}, {9, []uint64{7 + 2}, 1}, {9, []uint64{6 + 2}, 2}, {9, []uint64{5 + 2}, 2}, {9, []uint64{4 + 2}, 3}, {9, []uint64{3 + 2}, 3},
		{9, []uint64{1 + 2}, 3}, {9, []uint64{0 + 2}, 3}, {9, []uint64{1}, 3}, {9, []uint64{0}, 1},
		{9, []uint64{0, 6 + 2}, 2}, {9, []uint64{0, 0, 4 + 2}, 3}, {9, []uint64{8 + 2, 6 + 2, 7 + 2}, 2}, {9, []uint64{6 + 2, 4 + 2, 8 + 2}, 3}, {9, []uint64{4 + 2, 8 + 2, 8 + 2}, 3}, {9, []uint64{8 + 2, 8 + 2, 4 + 2}, 3},
		{9, []uint64{8 + 2, 1, 8 + 2}, 3}, {9, []uint64{1, 8 + 2, 8 + 2}, 3}, {9, []uint64{8 + 2, 0, 1}, 3},
		{6, []uint64{8 + 2}, 2}, {4, []uint64{7 + 2, 0, 8 + 2}, 3}, {7, []uint64{1<<64 - 1}, 1}, {6, []uint64{1<<64 - 1}, 2},
	} {
		k := old(t, c)
		k.clock(n.clock)
		for who, w := range n.views {
			k.views(who, w)
		}
		k.sees(n.records)
	}
}

// P23.1: a record without a stamp names its older one, whatever the least view; what is older than one that doesn't may be needed by another way.
func TestWithoutAStamp(t *testing.T) {
	c := config(8, 2, 1, 2)
	for _, clock := range []uint64{0, 1, 7, 9, 1<<64 - 1} {
		k := old(t, c)
		k.clock(clock)
		for rec := 1; rec <= 3; rec++ {
			k.words[plan.Body(c, rec, stamp)] = 0
		}
		k.sees(3)
	}
	k := old(t, c)
	k.words[plan.Body(c, 1, stamp)] = 0
	k.sees(2)
	k = old(t, c)
	k.node(0, 1, 3)
	k.needed(0, 1, 3, 4, 6)
	k = old(t, c)
	k.holds(0, 1, 2)
	k.needed(0, 1, 2, 4, 5)
	k.words[plan.Body(c, 2, stamp)] = 1<<64 - 1
	k.needed(0, 1, 2, 3, 4, 5, 6)
}

// P23.1: stamps and views are held against one another as numbers without a sign.
func TestGreatStamps(t *testing.T) {
	for _, n := range []struct {
		clock, stamp uint64
		cut          bool
	}{{1 << 63, 1 << 63, true}, {1<<63 - 1, 1 << 63, false}, {1, 1 << 63, false}, {1 << 63, 1, true}, {1<<64 - 1, 1<<64 - 1, true}, {1<<64 - 2, 1<<64 - 1, false}} {
		k := newBench(t, config(3, 1, 1, 1))
		k.record(0, none, n.stamp, 1)
		k.record(1, none, 0, none)
		k.holds(0, 0, 0)
		k.clock(n.clock)
		k.reached(0, 1)
		if n.cut {
			k.needed(0)
		} else {
			k.needed(0, 1)
		}
	}
}
