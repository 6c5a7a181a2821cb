package heap_test

import (
	"slices"
	"testing"

	"withy/api"
	"withy/heap"
	"withy/plan"
)

// plain tells the chapter in another way: of each slot whether it is so, again and again, till no more are.
type plain struct {
	*bench
	list map[int]int // how often each slot stands in the free list, as far as it is gone through
	open bool        // the free list isn't at its end behind as many as there are
}

// bits are some bits of a word.
func bits(w uint64, at, n int) int {
	return int(w >> at & (1<<n - 1))
}

// header is a slot's.
func (p *plain) header(slot int) uint64 {
	return p.words[plan.Header(p.c, slot)]
}

// body is a word of a slot's body.
func (p *plain) body(slot, i int) uint64 {
	return p.words[plan.Body(p.c, slot, i)]
}

// right tells whether a slot's header is.
func (p *plain) right(slot int) bool {
	return bits(p.header(slot), 0, 3) <= 4 && bits(p.header(slot), 9, 7) == 0
}

// lives tells whether a slot does.
func (p *plain) lives(slot int) bool {
	kind := bits(p.header(slot), 0, 3)
	return p.right(slot) && (kind == 1 || kind == 2)
}

// isRoot tells whether an entry or a start names a slot.
func (p *plain) isRoot(slot int) bool {
	for who := range p.c.Clients {
		for i := range p.c.Handles {
			if bits(p.words[plan.Entry(p.c, who, i)], 0, 32) == slot+1 {
				return true
			}
		}
		if p.words[plan.Start(p.c, who)] == uint64(slot)+1 {
			return true
		}
	}
	return false
}

// names tells whether one slot, that lives, names another one, where views from this one on alone count.
func (p *plain) names(slot, other int, view uint64) bool {
	is := func(i int) bool { return p.body(slot, i) == uint64(other)+1 }
	if bits(p.header(slot), 0, 3) == 1 {
		for i := range min(bits(p.header(slot), 5, 4), bodySize(p.c)) {
			if is(i) {
				return true
			}
		}
		return false
	}
	at := p.body(slot, stamp)
	return is(value) || is(older) && (at == 0 || at > view)
}

// view is the least one.
func (p *plain) view() uint64 {
	l := []uint64{p.words[plan.Clock]}
	for who := range p.c.Clients {
		w := p.words[plan.View(p.c, who)]
		if w == 1 {
			l = append(l, 0)
		}
		if w > 1 {
			l = append(l, w-2)
		}
	}
	return slices.Min(l)
}

// reaches is which slots are reached, where views from this one on alone count.
func (p *plain) reaches(view uint64) []bool {
	is := make([]bool, p.c.Slots)
	for more := true; more; {
		more = false
		for slot := range is {
			if is[slot] || !p.lives(slot) {
				continue
			}
			is[slot] = p.isRoot(slot)
			for by := range is {
				is[slot] = is[slot] || is[by] && p.names(by, slot, view)
			}
			more = more || is[slot]
		}
	}
	return is
}

// lists goes through the free list.
func (p *plain) lists() {
	p.list = map[int]int{}
	w := p.words[plan.Top] & (1<<16 - 1)
	for range p.c.Slots {
		if w == 0 || w > uint64(p.c.Slots) {
			return
		}
		p.list[int(w)-1]++
		w = p.words[plan.Link(p.c, int(w)-1)]
	}
	p.open = w > 0 && w <= uint64(p.c.Slots)
}

// badHead, badSlot, badList and badGrays tell whether the words are that.

func (p *plain) badHead() bool {
	for slot := range p.c.Slots {
		if !p.right(slot) {
			return true
		}
	}
	return false
}

func (p *plain) badSlot() bool {
	reached := p.reaches(0)
	for slot := range p.c.Slots {
		if reached[slot] && p.list[slot] > 0 || !p.lives(slot) && p.isRoot(slot) {
			return true
		}
		for by := range p.c.Slots {
			if reached[by] && !p.lives(slot) && p.names(by, slot, 0) {
				return true
			}
		}
	}
	return false
}

func (p *plain) badList() bool {
	for slot, n := range p.list {
		if n > 1 || bits(p.header(slot), 0, 3) != api.Free {
			return true
		}
	}
	return p.open
}

func (p *plain) badGrays() bool {
	gray := uint64(0)
	for slot := range p.c.Slots {
		gray += p.header(slot) >> 4 & 1
	}
	return gray > p.words[plan.Grays]
}

// check is what Check should answer.
func (p *plain) check() int {
	p.lists()
	for i, bad := range []func() bool{p.badHead, p.badSlot, p.badList, p.badGrays} {
		if bad() {
			return i + heap.BadHead
		}
	}
	return heap.Right
}

// fieldsOf is what Fields should answer.
func (p *plain) fieldsOf(slot int) []int {
	var l []int
	if !p.right(slot) || bits(p.header(slot), 0, 3) != api.Node {
		return nil
	}
	for i := range min(bits(p.header(slot), 5, 4), bodySize(p.c)) {
		val := none
		rec := int(p.body(slot, i)) - 1
		if p.body(slot, i) <= uint64(p.c.Slots) && rec >= 0 && p.right(rec) && bits(p.header(rec), 0, 3) == api.Record {
			if w := p.body(rec, value); w <= uint64(p.c.Slots) {
				val = int(w) - 1
			}
		}
		l = append(l, val)
	}
	return l
}

// name is a drawn word that names a slot, mostly.
func (k *bench) name(seed *uint64) uint64 {
	switch draw(seed, 12) {
	case 0:
		return strangers(k.c)[draw(seed, len(strangers(k.c)))]
	case 1, 2, 3:
		return 0
	}
	return uint64(draw(seed, k.c.Slots) + 1)
}

// drawSlot draws a slot's words.
func (k *bench) drawSlot(seed *uint64, slot, odd int) {
	kind := []int{api.Node, api.Node, api.Record, api.Record, api.Record}[draw(seed, 5)]
	if draw(seed, odd) == 0 {
		kind = draw(seed, 5)
	}
	h := api.Header{Kind: kind, Mark: draw(seed, 2), Gray: draw(seed, 6) == 0, Gen: draw(seed, 3), Stamp: draw(seed, 3)}
	if kind == api.Node {
		h.Arity = draw(seed, 5)
	}
	k.heads(slot, h)
	if draw(seed, 20*odd) == 0 {
		k.words[plan.Header(k.c, slot)] = noHeaders()[draw(seed, len(noHeaders()))]
	}
	k.words[plan.Link(k.c, slot)] = 0
	for i := range bodySize(k.c) {
		k.words[plan.Body(k.c, slot, i)] = k.name(seed)
	}
	if kind == api.Record {
		k.words[plan.Body(k.c, slot, stamp)] = uint64(draw(seed, 7))
	}
}

// drawList has free slots be in the free list, mostly, and others seldom.
func (k *bench) drawList(seed *uint64) {
	var l []int
	for slot := range k.c.Slots {
		if k.words[plan.Header(k.c, slot)]&7 == api.Free && draw(seed, 4) > 0 || draw(seed, 60) == 0 {
			l = append(l, slot)
		}
	}
	k.lists(l...)
	if len(l) > 0 && draw(seed, 8) == 0 {
		k.words[plan.Link(k.c, l[len(l)-1])] = k.name(seed)
	}
}

// drawWords draws the words of a memory, of which some are right.
func drawWords(t *testing.T, c api.Config, seed *uint64) *bench {
	k := newBench(t, c)
	odd := []int{2, 6, 40}[draw(seed, 3)]
	for slot := range c.Slots {
		k.drawSlot(seed, slot, odd)
	}
	k.drawList(seed)
	k.clock(uint64(draw(seed, 8)))
	for who := range c.Clients {
		for i := range c.Handles {
			if draw(seed, 3) == 0 {
				k.words[plan.Entry(c, who, i)] = uint64(draw(seed, 3))<<32 + k.name(seed)
			}
		}
		if draw(seed, 3) == 0 {
			k.words[plan.Start(c, who)] = k.name(seed)
			k.views(who, uint64(draw(seed, 9)))
		}
	}
	k.words[plan.Grays] = uint64(draw(seed, 4))
	return k
}

// P23.1 to P23.3: drawn words say what the chapter, told in another way, has them say.
func TestDrawnWords(t *testing.T) {
	seed := uint64(7)
	told := map[int]int{}
	cut := 0
	for n := range 30000 {
		c := []api.Config{config(5, 2, 1, 2), config(8, 4, 2, 1), config(3, 0, 1, 1), config(1, 1, 1, 1), config(12, 3, 1, 3)}[n%5]
		k := drawWords(t, c, &seed)
		was := slices.Clone(k.words)
		p := &plain{bench: k}
		reached, needed := p.reaches(0), p.reaches(p.view())
		k.which("Reached", heap.Reached(c, k.words), listed(reached))
		k.which("Needed", heap.Needed(c, k.words), listed(needed))
		if !slices.Equal(reached, needed) {
			cut++
		}
		want := p.check()
		k.check(want)
		told[want]++
		for slot := range c.Slots {
			k.fields(slot, p.fieldsOf(slot)...)
		}
		if !slices.Equal(k.words, was) {
			t.Fatal("the words that were handed in are changed")
		}
	}
	for _, answer := range []int{heap.Right, heap.BadHead, heap.BadSlot, heap.BadList, heap.BadGrays} {
		if told[answer] < 500 {
			t.Errorf("Check was %d only %d times", answer, told[answer])
		}
	}
	if cut < 500 {
		t.Errorf("less was needed than reached only %d times", cut)
	}
}
