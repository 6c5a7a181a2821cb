package arena_test

import (
	"math"
	"slices"
	"testing"

	"withy/api"
	"withy/arena"
	"withy/mem"
	"withy/plan"
)

// teller does what the chapter says of a machine in one go, with nobody else about, and writes down the touches.
type teller struct {
	c       api.Config
	words   []uint64
	touches []api.Touch
}

func (o *teller) load(at int) uint64 {
	o.touches = append(o.touches, load(at, o.words[at]))
	return o.words[at]
}

func (o *teller) store(at int, now uint64) {
	o.touches = append(o.touches, store(at, o.words[at], now))
	o.words[at] = now
}

// move has the top name another slot, with the next tag.
func (o *teller) move(slot int) {
	was := o.words[plan.Top]
	now := (was>>16+1)<<16 + uint64(slot+1)
	o.touches = append(o.touches, swap(was, now))
	o.words[plan.Top] = now
}

// slot is the slot that a word names.
func (o *teller) slot(w uint64) int {
	for slot := range o.c.Slots {
		if w == uint64(slot)+1 {
			return slot
		}
	}
	return none
}

// right tells whether a word is a right header's.
func right(w uint64) bool {
	return w&7 <= 4 && w>>9&127 == 0
}

// make is what a Make tells.
func (o *teller) make(kind, arity int, e uint64, body []uint64) (slot int, full bool) {
	slot = o.slot(o.load(plan.Top) & (perTag - 1))
	if slot == none {
		return none, true
	}
	o.move(o.slot(o.load(plan.Link(o.c, slot))))
	was, gen := o.load(plan.Header(o.c, slot)), uint64(0)
	if right(was) {
		gen = was >> 16 & (1<<32 - 1)
	}
	for i := range bodySize(o.c) {
		w := uint64(0)
		if i < len(body) {
			w = body[i]
		}
		o.store(plan.Body(o.c, slot, i), w)
	}
	o.store(plan.Header(o.c, slot), uint64(kind)+uint64(born(e))<<3+uint64(arity)<<5+gen<<16)
	return slot, false
}

// free is what a Free tells.
func (o *teller) free(slot int) (back, gone bool) {
	at := plan.Header(o.c, slot)
	w := o.load(at)
	if !right(w) || w&7 != api.Limbo {
		return false, false
	}
	gen := w>>16&(1<<32-1) + 1
	if gen >= uint64(o.c.Gens) {
		o.store(at, w-api.Limbo+api.Dead)
		return false, true
	}
	o.store(at, gen<<16)
	top := o.slot(o.load(plan.Top) & (perTag - 1))
	o.store(plan.Link(o.c, slot), uint64(top+1))
	o.move(slot)
	return true, false
}

// begin is a bench with these words, and a teller who knows them.
func begin(t *testing.T, c api.Config, words []uint64) (*bench, *teller) {
	return &bench{t: t, c: c, m: mem.Of(words)}, &teller{c: c, words: slices.Clone(words)}
}

// ended holds the touches of a machine's steps, and all words behind them, against the teller's. Ahead of each step unready tells whether the machine tells something too early.
func (k *bench) ended(s mem.Machine, o *teller, unready func() bool) {
	for i, touch := range o.touches {
		if unready() {
			k.t.Helper()
			k.t.Fatalf("ahead of the step %d of %d the machine tells what it came to", i, len(o.touches))
		}
		k.step(s, i == len(o.touches)-1, touch)
	}
	k.over(s)
	if !slices.Equal(k.m.Words(), o.words) {
		k.t.Helper()
		k.t.Fatal("other words were changed")
	}
}

// sorts are kinds, each with an arity that it may have.
func sorts(c api.Config) []api.Header {
	l := []api.Header{{Kind: api.Record}}
	for arity := range c.Arity + 1 {
		l = append(l, api.Header{Kind: api.Node, Arity: arity})
	}
	return l
}

// bodies are from none to as many words as a slot has, up to those of all bits.
func bodies(c api.Config) [][]uint64 {
	l := [][]uint64{nil, {}}
	for n := range bodySize(c) + 1 {
		var low, high []uint64
		for i := range n {
			low = append(low, uint64(i)+1)
			high = append(high, math.MaxUint64-uint64(i))
		}
		l = append(l, low, high)
	}
	return l
}

// litter is a memory's words whose bodies are full of what was there before, and whose other words are of many bits.
func litter(c api.Config) []uint64 {
	words := plan.Memory(c).Words()
	for at := range words {
		if at != plan.Top && plan.Slot(c, at) == none {
			words[at] = 0xabcd_0000_0000_0000 + uint64(at)
		}
	}
	for slot := range c.Slots {
		for i := range bodySize(c) {
			words[plan.Body(c, slot, i)] = 0xdcba_0000_0000_0000 + uint64(slot*10+i)
		}
	}
	return words
}

// P12.1: a Make alone, from its first step to its last, of all kinds and arities, with all bodies, in all phases.
func TestMakeAlone(t *testing.T) {
	for _, c := range configs() {
		for _, h := range sorts(c) {
			for _, body := range bodies(c) {
				for _, e := range epochs() {
					k, o := begin(t, c, litter(c))
					slot, full := o.make(h.Kind, h.Arity, e, body)
					a := arena.NewMake(c, h.Kind, h.Arity, e, body)
					k.ended(a, o, func() bool { return a.Slot != none || a.Full })
					isMake(t, a, slot, full)
					isMake(t, a, 0, false)
					same(t, "steps", len(o.touches), 5+bodySize(c))
					k.is(0, api.Header{Kind: h.Kind, Mark: born(e), Arity: h.Arity})
				}
			}
		}
	}
}

// P12.1: the same of each slot, with each generation that its header may have, and 0 of a word that is no right header's, whatever is in its bits.
func TestMakeOfGenerations(t *testing.T) {
	for _, c := range configs() {
		for _, slot := range []int{0, c.Slots / 2, c.Slots - 1} {
			for gen, w := range headWords(t) {
				k, o := begin(t, c, litter(c))
				k.lists(3, slot)
				k.m.Store(plan.Header(c, slot), w)
				o.words = k.m.Words()
				want, full := o.make(api.Node, c.Arity, 2, []uint64{7})
				a := arena.NewMake(c, api.Node, c.Arity, 2, []uint64{7})
				k.ended(a, o, func() bool { return a.Slot != none || a.Full })
				isMake(t, a, want, full)
				isMake(t, a, slot, false)
				k.is(slot, api.Header{Kind: api.Node, Mark: 1, Arity: c.Arity, Gen: gen})
				k.has()
			}
			for _, w := range noHeaders() {
				k, o := begin(t, c, litter(c))
				k.lists(3, slot)
				k.m.Store(plan.Header(c, slot), w)
				o.words = k.m.Words()
				o.make(api.Record, 0, 4, nil)
				a := arena.NewMake(c, api.Record, 0, 4, nil)
				k.ended(a, o, func() bool { return a.Slot != none || a.Full })
				isMake(t, a, slot, false)
				k.is(slot, api.Header{Kind: api.Record, Mark: 1})
			}
		}
	}
}

// headWords are words of right headers of all kinds, by their generation.
func headWords(t *testing.T) map[int]uint64 {
	l := map[int]uint64{}
	for i, gen := range []int{0, 1, 2, 5, 6, 7, 1<<16 - 1, 1 << 16, 1<<20 - 1, 1 << 20, 1<<31 - 1, 1 << 31, 1<<32 - 1} {
		l[gen] = header(t, api.Header{Kind: api.Free, Gen: gen})
		if i%3 == 2 {
			l[gen] = header(t, api.Header{Kind: i % 5, Mark: 1, Gray: true, Arity: 15, Gen: gen, Stamp: 1<<16 - 1})
		}
	}
	return l
}

// tops are words of a top that names no slot of a config.
func tops(c api.Config) []uint64 {
	var l []uint64
	for _, tag := range []uint64{0, 1, 1 << 31, 1<<48 - 1} {
		for _, low := range []uint64{0, uint64(c.Slots) + 1, 65, 1 << 15, perTag - 1} {
			l = append(l, tag*perTag+low)
		}
	}
	return l
}

// P12.1: a Make alone with no slot to be had: one step, and Full.
func TestMakeOfNone(t *testing.T) {
	for _, c := range configs() {
		for _, top := range tops(c) {
			words := litter(c)
			words[plan.Top] = top
			k, o := begin(t, c, words)
			o.make(api.Node, 0, 1, []uint64{1, 2})
			a := arena.NewMake(c, api.Node, 0, 1, []uint64{1, 2})
			k.ended(a, o, func() bool { return a.Slot != none || a.Full })
			isMake(t, a, none, true)
			same(t, "steps", len(o.touches), 1)
		}
	}
}

// limbos are headers of slots in limbo, of generations below, at and beyond a config's last one.
func limbos(c api.Config) []api.Header {
	l := []api.Header{}
	for _, gen := range []int{0, 1, 2, c.Gens - 3, c.Gens - 2, c.Gens - 1, c.Gens, c.Gens + 1, 1<<20 - 2, 1<<20 - 1, 1<<31 - 1, 1<<32 - 2, 1<<32 - 1} {
		if gen >= 0 {
			l = append(l, api.Header{Kind: api.Limbo, Gen: gen},
				api.Header{Kind: api.Limbo, Mark: 1, Gray: true, Arity: 15, Gen: gen, Stamp: 1<<16 - 1})
		}
	}
	return l
}

// freely are configs whose generations are few, some, and the most.
func freely() []api.Config {
	l := configs()
	for _, gens := range []int{1, 2, 3, api.MaxGens - 1, api.MaxGens} {
		l = append(l, config(1, gens), config(4, gens))
	}
	return l
}

// P12.2: a Free alone of a slot in limbo, from its first step to its last: the first and the last slot, of all generations, over a free list of none and of some.
func TestFreeAlone(t *testing.T) {
	for _, c := range freely() {
		for _, slot := range []int{0, c.Slots / 2, c.Slots - 1} {
			for _, h := range limbos(c) {
				for _, listed := range [][]int{nil, {(slot + 1) % c.Slots}} {
					k, o := begin(t, c, litter(c))
					if c.Slots > 1 {
						k.lists(9, listed...)
					} else {
						k.lists(9)
					}
					k.heads(slot, h)
					o.words = k.m.Words()
					back, gone := o.free(slot)
					f := arena.NewFree(c, slot)
					k.ended(f, o, func() bool { return f.Back || f.Gone })
					isFree(t, f, back, gone)
					k.isFreed(slot, h, back)
				}
			}
		}
	}
}

// isFreed holds a slot that was in limbo against what it should be now.
func (k *bench) isFreed(slot int, h api.Header, back bool) {
	last := h.Gen+1 >= k.c.Gens
	same(k.t, "Back", back, !last)
	if last {
		h.Kind = api.Dead
		k.is(slot, h)
		return
	}
	k.is(slot, api.Header{Gen: h.Gen + 1})
}

// P12.2: a Free of a slot that isn't in limbo: one step, and nothing is done, whatever it is.
func TestFreeOfOthers(t *testing.T) {
	for _, c := range freely() {
		for _, slot := range []int{0, c.Slots - 1} {
			for _, w := range others(t) {
				words := litter(c)
				words[plan.Header(c, slot)] = w
				k, o := begin(t, c, words)
				o.free(slot)
				f := arena.NewFree(c, slot)
				k.ended(f, o, func() bool { return f.Back || f.Gone })
				isFree(t, f, false, false)
				same(t, "steps", len(o.touches), 1)
			}
		}
	}
}

// others are words of headers that aren't in limbo, and of none.
func others(t *testing.T) []uint64 {
	l := noHeaders()
	for _, kind := range []int{api.Free, api.Node, api.Record, api.Dead} {
		for mark := range 2 {
			for _, gray := range []bool{false, true} {
				l = append(l, header(t, api.Header{Kind: kind, Mark: mark, Gray: gray}),
					header(t, api.Header{Kind: kind, Mark: mark, Gray: gray, Arity: 2, Gen: 3, Stamp: 3}))
			}
		}
	}
	return l
}

// P12.2: a Free over a top that names a slot that there isn't lays the slot as if there were none.
func TestFreeOverTops(t *testing.T) {
	for _, c := range []api.Config{config(1, 2), config(3, 9), greatest()} {
		for _, top := range tops(c) {
			k, o := begin(t, c, litter(c))
			slot := c.Slots - 1
			k.heads(slot, api.Header{Kind: api.Limbo})
			k.m.Store(plan.Top, top)
			o.words = k.m.Words()
			o.free(slot)
			f := arena.NewFree(c, slot)
			k.ended(f, o, func() bool { return f.Back || f.Gone })
			isFree(t, f, true, false)
			k.has(slot)
		}
	}
}
