package sweep_test

import (
	"slices"
	"testing"

	"withy/api"
	"withy/mem"
	"withy/plan"
	"withy/sweep"
)

// teller does what the chapter says of a machine in one go, with nobody else about, and writes down the touches.
type teller struct {
	c       api.Config
	words   []uint64
	touches []api.Touch
}

func (o *teller) load(at int) uint64 {
	o.touches = append(o.touches, load(at, o.words[at]))
	return o.words[at]
}

func (o *teller) store(at int, now uint64) {
	o.touches = append(o.touches, store(at, o.words[at], now))
	o.words[at] = now
}

func (o *teller) swap(at int, now uint64) {
	o.touches = append(o.touches, swap(at, o.words[at], now))
	o.words[at] = now
}

// right tells whether a word is a right header's.
func right(w uint64) bool {
	return w&7 <= 4 && w>>9&127 == 0
}

// sweep is what a Sweep tells.
func (o *teller) sweep(e uint64) (gone int) {
	for slot := range o.c.Slots {
		at := plan.Header(o.c, slot)
		w := o.load(at)
		if right(w) && (w&7 == api.Node || w&7 == api.Record) && int(w>>3&1) != black(e) {
			o.swap(at, w&(1<<48-1)&^(16+7)+api.Limbo+e<<48)
			gone++
		}
	}
	return gone
}

// reclaim is what a Reclaim tells: the header is loaded once by it, and once by the Free.
func (o *teller) reclaim() (back, gone int) {
	for slot := range o.c.Slots {
		at := plan.Header(o.c, slot)
		w := o.load(at)
		if !right(w) || w&7 != api.Limbo {
			continue
		}
		o.load(at)
		gen := w>>16&(1<<32-1) + 1
		if gen >= uint64(o.c.Gens) {
			o.store(at, w-api.Limbo+api.Dead)
			gone++
			continue
		}
		o.store(at, gen<<16)
		top := o.load(plan.Top)
		first := top & (perTag - 1)
		if first > uint64(o.c.Slots) {
			first = 0
		}
		o.store(plan.Link(o.c, slot), first)
		o.swap(plan.Top, (top>>16+1)<<16+uint64(slot)+1)
		back++
	}
	return back, gone
}

// ended holds the touches of a machine's steps, and all words behind them, against the teller's.
func (k *bench) ended(s mem.Machine, o *teller) {
	k.t.Helper()
	for i, touch := range o.touches {
		k.step(s, i == len(o.touches)-1, touch)
	}
	k.over(s)
	if !slices.Equal(k.m.Words(), o.words) {
		k.t.Fatal("other words were changed")
	}
}

// sweepAlone has a Sweep work alone over words, and holds it against the teller.
func sweepAlone(t *testing.T, c api.Config, words []uint64, e uint64) (*bench, int) {
	t.Helper()
	k, o := &bench{t: t, c: c, m: mem.Of(words)}, &teller{c: c, words: slices.Clone(words)}
	want := o.sweep(e)
	s := sweep.NewSweep(c, e)
	same(t, "Gone", s.Gone, 0)
	k.ended(s, o)
	same(t, "Gone", s.Gone, want)
	return k, want
}

// reclaimAlone has a Reclaim work alone over words, and holds it against the teller.
func reclaimAlone(t *testing.T, c api.Config, words []uint64) (k *bench, back, gone int) {
	t.Helper()
	k, o := &bench{t: t, c: c, m: mem.Of(words)}, &teller{c: c, words: slices.Clone(words)}
	back, gone = o.reclaim()
	r := sweep.NewReclaim(c)
	isReclaim(t, r, 0, 0)
	k.ended(r, o)
	isReclaim(t, r, back, gone)
	return k, back, gone
}

// P14.1: over a memory in which nothing was done each header is loaded once, and that is all.
func TestNewMemory(t *testing.T) {
	for _, c := range configs() {
		for _, e := range epochs() {
			k, gone := sweepAlone(t, c, plan.Memory(c).Words(), e)
			same(t, "Gone", gone, 0)
			same(t, "touches", k.m.Touches(), c.Slots)
		}
		k, back, gone := reclaimAlone(t, c, plan.Memory(c).Words())
		same(t, "Back and Gone", back+gone, 0)
		same(t, "touches", k.m.Touches(), c.Slots)
	}
}

// drawHeap is words of a memory whose slots are of all kinds, marks and generations, some of them not right; what is free is in the free list.
func drawHeap(t *testing.T, c api.Config, seed *uint64) []uint64 {
	k := newBench(t, c)
	var free []int
	for slot := range c.Slots {
		h := api.Header{Kind: draw(seed) % 5, Mark: draw(seed) % 2, Gray: draw(seed)%5 == 0, Arity: draw(seed) % (c.Arity + 1), Stamp: draw(seed) % 9}
		h.Gen = draw(seed) % c.Gens
		if draw(seed)%3 == 0 {
			h.Gen = c.Gens - 1
		}
		if h.Kind == api.Free {
			h = api.Header{Gen: h.Gen}
			free = append(free, slot)
		}
		k.heads(slot, h)
		if draw(seed)%9 == 0 && h.Kind != api.Free {
			k.m.Store(plan.Header(c, slot), noHeaders()[draw(seed)%len(noHeaders())])
		}
	}
	for i, slot := range free {
		next := uint64(0)
		if i+1 < len(free) {
			next = uint64(free[i+1]) + 1
		}
		k.m.Store(plan.Link(c, slot), next)
	}
	k.m.Store(plan.Top, uint64(draw(seed))<<16)
	if len(free) > 0 {
		k.m.Store(plan.Top, uint64(draw(seed))<<16+uint64(free[0])+1)
	}
	return k.m.Words()
}

// P14.1, P14.2: a Sweep alone, step by step, over many heaps; then a Reclaim alone, over what it left.
func TestManyHeaps(t *testing.T) {
	all, came, died := 0, 0, 0
	for _, c := range configs() {
		for n := range uint64(150) {
			seed := n
			e := epochs()[int(n)%len(epochs())]
			words := drawHeap(t, c, &seed)
			k, gone := sweepAlone(t, c, words, e)
			k.isSwept(words, e)
			swept := k.m.Words()
			r, back, dead := reclaimAlone(t, c, swept)
			r.isReclaimed(swept, back, dead)
			all, came, died = all+gone, came+back, died+dead
		}
	}
	if all < 1000 || came < 1000 || died < 1000 {
		t.Errorf("%d were retired, %d came back, and %d are dead: too few", all, came, died)
	}
}

// P14.1: the same of tops that name no slot, and of lists that go round: a Reclaim alone over them.
func TestReclaimOverTops(t *testing.T) {
	for _, c := range []api.Config{config(1, 2), config(3, 4), greatest()} {
		for _, top := range []uint64{0, uint64(c.Slots) + 1, perTag - 1, 5 * perTag, 1<<64 - 1, 1<<64 - perTag, 1} {
			k := newBench(t, c)
			for slot := range c.Slots {
				k.heads(slot, api.Header{Kind: api.Limbo, Gen: slot % 2})
			}
			k.m.Store(plan.Top, top)
			reclaimAlone(t, c, k.m.Words())
		}
	}
}
