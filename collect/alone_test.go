package collect_test

import (
	"slices"
	"testing"

	"withy/api"
	"withy/collect"
	"withy/epoch"
	"withy/head"
	"withy/mark"
	"withy/mem"
	"withy/plan"
	"withy/shade"
	"withy/stack"
	"withy/sweep"
	"withy/turn"
)

// told is a step, as it should be: its touch, and E and Cycles behind it.
type told struct {
	touch  api.Touch
	e      uint64
	cycles int
}

// teller does what the chapter says, one machine behind the other, in a memory of its own, and writes down the steps.
type teller struct {
	c      api.Config
	m      *mem.Mem
	e      uint64
	cycles int
	steps  []told
}

// does has a machine work till it is done.
func (o *teller) does(s mem.Machine) {
	for done := false; !done; {
		done = s.Step(o.m)
		o.steps = append(o.steps, told{o.m.Last(), o.e, o.cycles})
	}
}

// epoch is one epoch, from its first step to its Advance's last one.
func (o *teller) epoch() {
	switch turn.At(o.e) {
	case 1:
		o.does(sweep.NewReclaim(o.c))
	case -1:
		o.does(mark.NewMark(o.c, o.e))
	case -1i:
		o.does(sweep.NewSweep(o.c, o.e))
	}
	o.does(epoch.NewAdvance(o.c))
	if turn.At(o.e) == -1i {
		o.cycles++
	}
	o.e++
	last := &o.steps[len(o.steps)-1]
	last.e, last.cycles = o.e, o.cycles
}

// begins has a collector go so many cycles over a new memory, and then the memory have these words, all but the epoch.
func begins(t *testing.T, c api.Config, cycles int, words []uint64) *bench {
	b := newBench(t, c)
	b.till(4 * uint64(cycles))
	for at, w := range words {
		if at != plan.Epoch {
			b.m.Store(at, w)
		}
	}
	return b
}

// alone has a collector go some epochs on, and holds each step against the teller's.
func (b *bench) alone(epochs int) {
	b.t.Helper()
	o := &teller{c: b.c, m: b.m.Copy(), e: b.k.E, cycles: b.k.Cycles}
	for range epochs {
		o.epoch()
	}
	for i, want := range o.steps {
		b.touch(want.touch)
		if b.k.E != want.e || b.k.Cycles != want.cycles {
			b.t.Fatalf("the step %d: E %d, Cycles %d, want %d, %d", i, b.k.E, b.k.Cycles, want.e, want.cycles)
		}
	}
	same(b.t, "all words", slices.Equal(b.m.Words(), o.m.Words()), true)
}

// P15.1: over a new memory, step by step, through three cycles and more.
func TestNewMemory(t *testing.T) {
	for _, c := range configs() {
		newBench(t, c).alone(14)
	}
}

// drawHeap is words of a memory at the rest of a cycle, in which slots are of all kinds, and name one another; so many of ten are nodes and records. What is gray is marked, and counted; what is free is in the free list.
func drawHeap(c api.Config, cycle, many int, seed *uint64) []uint64 {
	words := plan.Memory(c).Words()
	words[plan.Clock] = uint64(1 + draw(seed)%6)
	var free []int
	for slot := range c.Slots {
		h := drawHeader(c, cycle, many, seed)
		if h.Kind == api.Free {
			free = append(free, slot)
		}
		if h.Gray {
			words[plan.Grays]++
		}
		words[plan.Header(c, slot)], _ = head.Pack(h)
		words[plan.Link(c, slot)] = uint64(draw(seed) % 9)
		for i := range bodySize(c) {
			words[plan.Body(c, slot, i)] = drawName(c, seed)
		}
		if h.Kind == api.Record {
			words[plan.Body(c, slot, stamp)] = uint64(draw(seed) % 7)
		}
	}
	words[plan.Top] = uint64(draw(seed)) << 16
	at := plan.Top
	for _, slot := range free {
		words[at] += uint64(slot) + 1
		at = plan.Link(c, slot)
		words[at] = 0
	}
	drawRoots(c, words, seed)
	return words
}

// drawHeader is a slot's header in the rest of a cycle. A node or a record that is marked then is gray, too: what it names is still to be found.
func drawHeader(c api.Config, cycle, many int, seed *uint64) api.Header {
	h := api.Header{Kind: draw(seed) % 5, Mark: cycle % 2, Gen: draw(seed) % c.Gens}
	if draw(seed)%10 < many {
		h.Kind = api.Node + draw(seed)%2
	}
	if draw(seed)%4 == 0 {
		h.Gen = c.Gens - 1
	}
	switch h.Kind {
	case api.Free:
		return api.Header{Gen: h.Gen}
	case api.Node:
		h.Arity = draw(seed) % (c.Arity + 1)
	}
	if draw(seed)%6 == 0 {
		h.Mark = 1 - cycle%2
		h.Gray = h.Kind == api.Node || h.Kind == api.Record
	}
	return h
}

// drawName is a slot's number and 1, or 0.
func drawName(c api.Config, seed *uint64) uint64 {
	if draw(seed)%4 == 0 {
		return 0
	}
	return uint64(1 + draw(seed)%c.Slots)
}

// drawRoots has clients hold slots, and have walks.
func drawRoots(c api.Config, words []uint64, seed *uint64) {
	for who := range c.Clients {
		words[plan.View(c, who)] = []uint64{0, 0, 0, 0, 0, 1, 2, 3, 4, 5, 6, 99}[draw(seed)%12]
		if draw(seed)%3 == 0 {
			words[plan.Start(c, who)] = drawName(c, seed)
		}
		if draw(seed)%2 == 0 {
			words[plan.Entry(c, who, draw(seed)%c.Handles)] = uint64(draw(seed))<<32 | drawName(c, seed)
		}
	}
}

// lives tells whether a word names a slot that is a node or a record.
func lives(c api.Config, words []uint64, w uint64) bool {
	if w == 0 || w > uint64(c.Slots) {
		return false
	}
	kind := words[plan.Header(c, int(w)-1)] & 7
	return kind == api.Node || kind == api.Record
}

// leastView is the least one that a walk has, or the clock.
func leastView(c api.Config, words []uint64) uint64 {
	n := words[plan.Clock]
	for who := range c.Clients {
		if w := words[plan.View(c, who)]; w == 1 {
			n = 0
		} else if w > 1 {
			n = min(n, w-2)
		}
	}
	return n
}

// names is the words by which a node or a record names others: what is older from those alone that were stamped behind the view, or have no stamp. With a view of 0 all of them do.
func names(c api.Config, words []uint64, slot int, view uint64) []uint64 {
	body := words[plan.Body(c, slot, 0):]
	if h := words[plan.Header(c, slot)]; h&7 == api.Node {
		return body[:h>>5&15]
	}
	if body[stamp] == 0 || body[stamp] > view {
		return []uint64{body[value], body[older]}
	}
	return body[value : value+1]
}

// roots is the words by which clients name slots.
func roots(c api.Config, words []uint64) []uint64 {
	var l []uint64
	for who := range c.Clients {
		l = append(l, words[plan.Start(c, who)])
		for i := range c.Handles {
			l = append(l, words[plan.Entry(c, who, i)]&(1<<32-1))
		}
	}
	return l
}

// reached is which slots can be reached, as far as a view needs them.
func reached(c api.Config, words []uint64, view uint64) []bool {
	l := make([]bool, c.Slots)
	next := roots(c, words)
	for i := 0; i < len(next); i++ {
		if w := next[i]; lives(c, words, w) && !l[w-1] {
			l[w-1] = true
			next = append(next, names(c, words, int(w)-1, view)...)
		}
	}
	return l
}

// came is how many slots came to what, in tests that go through many heaps.
type came struct{ stayed, back, dead int }

// isCollected: what was reached is what it was, what else was something is free or dead, and nothing is in limbo. The words are those that there were at first.
func (b *bench) isCollected(words []uint64) (n came) {
	b.t.Helper()
	list, now := stack.List(b.c, b.m.Words()), b.m.Words()
	for slot, is := range reached(b.c, words, leastView(b.c, words)) {
		was, _ := head.Unpack(words[plan.Header(b.c, slot)])
		h := b.head(slot)
		switch {
		case is:
			b.isWhatItWas(slot, was, words)
			n.stayed++
		case was.Kind == api.Free:
			same(b.t, "header of a free one", h, was)
		case was.Kind == api.Dead:
			same(b.t, "header of a dead one", h, was)
		case was.Gen+1 < b.c.Gens:
			same(b.t, "header of one that went", h, api.Header{Gen: was.Gen + 1})
			n.back++
		default:
			same(b.t, "kind of one behind its last generation", h.Kind, api.Dead)
			same(b.t, "generation of a dead one", h.Gen, was.Gen)
			n.dead++
		}
		same(b.t, "a slot is in the free list", slices.Contains(list, slot), h.Kind == api.Free)
	}
	same(b.t, "gray slots", shade.Grays(b.c, now), 0)
	same(b.t, "grays", now[plan.Grays], 0)
	return n
}

// isWhatItWas: a slot's header, but for its mark, and its body, but for an older record that was cut off.
func (b *bench) isWhatItWas(slot int, was api.Header, words []uint64) {
	b.t.Helper()
	h := b.head(slot)
	h.Mark, h.Gray = was.Mark, was.Gray
	same(b.t, "header of one that is reached", h, was)
	first := plan.Body(b.c, slot, 0)
	body, now := words[first:first+bodySize(b.c)], b.m.Words()[first:first+bodySize(b.c)]
	for i := range body {
		cut := was.Kind == api.Record && i == older && body[stamp] > 0 && body[stamp] <= leastView(b.c, words)
		if now[i] != body[i] && !(cut && now[i] == 0) {
			b.t.Fatalf("the slot %d's word %d is %d, and was %d", slot, i, now[i], body[i])
		}
		if cut && body[i] > 0 && body[i] <= uint64(b.c.Slots) {
			same(b.t, "what is cut off", now[i], 0)
		}
	}
}

// P15.1 to P15.3: over many heaps, from the rest of a cycle with an even or an odd number on: each step; a cycle against Bound; and what all slots are behind two cycles and the next rest's Reclaim.
func TestManyHeaps(t *testing.T) {
	var all came
	for _, c := range append(configs(), config(12, 0), config(12, 1), config(12, 64)) {
		for n := range uint64(80) {
			seed, cycle := n, int(n%3)
			words := drawHeap(c, cycle, 3+int(n%7), &seed)
			begins(t, c, cycle, words).alone(9)

			b := begins(t, c, cycle, words)
			for i := range 2 {
				if got := b.till(4 * uint64(cycle+i+1)); got > collect.Bound(c) {
					t.Fatalf("%+v: a cycle of %d steps, and Bound is %d", c, got, collect.Bound(c))
				}
			}
			b.worked(4 * uint64(cycle+2))
			one := b.isCollected(words)
			all = came{all.stayed + one.stayed, all.back + one.back, all.dead + one.dead}
		}
	}
	if all.stayed < 1000 || all.back < 1000 || all.dead < 1000 {
		t.Errorf("%+v: too few", all)
	}
}

// P15.1: step by step over heaps that no clients leave: slots that are marked at a rest and not gray, words that are no right headers', pins and links of all sorts, and words that name no slot.
func TestStrangeHeaps(t *testing.T) {
	for _, c := range append(configs(), config(12, 1)) {
		for n := range uint64(40) {
			seed, cycle := n, int(n%2)
			words := drawHeap(c, cycle, 5, &seed)
			for slot := range c.Slots {
				at := plan.Header(c, slot)
				if words[at]&gray == 0 && draw(&seed)%4 == 0 {
					words[at] ^= []uint64{black, 7, 1 << 12, 15 << 5}[draw(&seed)%4]
				}
				words[plan.Link(c, slot)] = []uint64{0, 1, 65, 1 << 40}[draw(&seed)%4]
				words[plan.Body(c, slot, draw(&seed)%3)] = []uint64{0, 65, 1 << 32, 1<<64 - 1}[draw(&seed)%4]
			}
			words[plan.Start(c, 0)] = uint64(c.Slots) + 1
			begins(t, c, cycle, words).alone(9)
		}
	}
}

// P15.3: what is left behind two cycles is left for ever, as long as nobody does anything.
func TestNothingMoreGoes(t *testing.T) {
	for _, c := range []api.Config{config(12, 1), greatest()} {
		for n := range uint64(20) {
			seed := n
			words := drawHeap(c, 0, 8, &seed)
			b := begins(t, c, 0, words)
			b.worked(8)
			b.isCollected(words)
			b.worked(40)
			b.isCollected(words)
		}
	}
}

// row has a row of nodes and records, each naming the next one, of which the last slots come first: without room to wait each pass comes to one of them alone.
func row(t *testing.T, c api.Config) *bench {
	b := bare(t, c)
	for slot := range c.Slots {
		next := slot - 1
		if slot%2 == 0 && c.Arity > 0 {
			b.node(slot, slices.Repeat([]int{next}, c.Arity)...)
		} else {
			b.record(slot, next, 1, next)
		}
	}
	for who := range c.Clients {
		for i := range c.Handles {
			b.holds(who, i, c.Slots-1)
		}
		b.m.Store(plan.Start(c, who), uint64(c.Slots))
	}
	return b
}

// P15.2: heaps that make a cycle long: as many passes as there are slots, all of which are held twice and more; also with all slots in limbo, and all about to go.
func TestLongCycles(t *testing.T) {
	for _, c := range configs() {
		for _, stack := range []int{0, 1, 64} {
			c.Stack = stack
			b := row(t, c)
			for e := uint64(4); e < 20; e += 4 {
				if n := b.till(e); n > collect.Bound(c) {
					t.Fatalf("%+v: a cycle of %d steps, and Bound is %d", c, n, collect.Bound(c))
				}
			}
			limbo, nobodys := bare(t, c), bare(t, c)
			for slot := range c.Slots {
				limbo.heads(slot, api.Header{Kind: api.Limbo})
				nobodys.node(slot)
			}
			for _, b := range []*bench{limbo, nobodys} {
				for e := uint64(4); e < 12; e += 4 {
					if n := b.till(e); n > collect.Bound(c) {
						t.Fatalf("%+v: a cycle of %d steps, and Bound is %d", c, n, collect.Bound(c))
					}
				}
			}
		}
	}
}

// P15.2: without room to wait a row of all slots takes as many passes as there are, which is why Bound has to have them.
func TestManyPasses(t *testing.T) {
	c := api.Config{Slots: 64, Arity: 1, Clients: 1, Handles: 1, Gens: 9}
	n := row(t, c).till(4)
	if n < c.Slots*c.Slots || n > collect.Bound(c) {
		t.Errorf("a cycle of %d steps, and Bound is %d", n, collect.Bound(c))
	}
}

// P15.3: graphs that go round, and that nobody holds: a node that names itself by a record, and two that name each other; and a ring that is held.
func TestRound(t *testing.T) {
	for _, stack := range []int{0, 1, 64} {
		b := bare(t, config(10, stack))
		b.node(0, 1)
		b.record(1, 0, 1, 1)
		b.node(2, 3, 5)
		b.record(3, 4, 0, 5)
		b.node(4, 5)
		b.record(5, 2, 0, 3)
		b.node(6, 7)
		b.record(7, 8, 0, none)
		b.node(8, 9)
		b.record(9, 6, 0, 7)
		b.holds(0, 0, 8)
		words := b.m.Words()
		b.worked(8)
		b.isCollected(words)
		b.kinds(0, 0, 0, 0, 0, 0, api.Node, api.Record, api.Node, api.Record)
		b.m.Store(plan.Entry(b.c, 0, 0), 8<<32)
		b.worked(16)
		b.kinds(0, 0, 0, 0, 0, 0, 0, 0, 0, 0)
		b.m.Store(plan.Start(b.c, 0), 9)
		b.worked(24)
		b.kinds(0, 0, 0, 0, 0, 0, 0, 0, 0, 0)
	}
}

// P15.3: a row of older records, stamped 9, 7, 5, 3 from the newest one on: which of them are there behind two cycles hangs on the views, and on the clock without any.
func TestViews(t *testing.T) {
	for _, n := range []struct {
		clock, one, other uint64
		left              int
	}{
		{10, 0, 0, 1},
		{9, 0, 0, 1},
		{8, 0, 0, 2},
		{2, 0, 0, 4},
		{10, 9 + 2, 0, 1},
		{10, 8 + 2, 0, 2},
		{10, 0, 7 + 2, 2},
		{10, 6 + 2, 8 + 2, 3},
		{10, 8 + 2, 4 + 2, 4},
		{10, 3 + 2, 0, 4},
		{10, 0 + 2, 0, 4},
		{10, 1, 0, 4},
		{10, 9 + 2, 1, 4},
	} {
		b := bare(t, api.Config{Slots: 6, Arity: 1, Clients: 2, Handles: 1, Gens: 9, Stack: 2})
		b.node(0, 1)
		for slot := 1; slot < 5; slot++ {
			b.record(slot, none, uint64(11-2*slot), slot+1)
		}
		b.m.Store(plan.Body(b.c, 4, older), 0)
		b.heads(5, api.Header{Kind: api.Dead})
		b.holds(0, 0, 0)
		b.m.Store(plan.Clock, n.clock)
		b.m.Store(plan.View(b.c, 0), n.one)
		b.m.Store(plan.View(b.c, 1), n.other)
		words := b.m.Words()
		b.worked(8)
		same(t, "records that are left", b.isCollected(words).stayed-1, n.left)
	}
}

// P15.3: once a walk is over, the older records that it alone needed go.
func TestViewGoes(t *testing.T) {
	b := bare(t, config(3, 1))
	b.node(0, 1)
	b.record(1, none, 5, 2)
	b.record(2, 0, 3, none)
	b.holds(0, 0, 0)
	b.m.Store(plan.Clock, 6)
	b.m.Store(plan.View(b.c, 0), 4+2)
	b.worked(16)
	b.kinds(api.Node, api.Record, api.Record)
	b.m.Store(plan.View(b.c, 0), 0)
	b.worked(24)
	b.kinds(api.Node, api.Record, api.Free)
	b.list(2)
}
