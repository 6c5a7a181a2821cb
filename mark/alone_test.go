package mark_test

import (
	"slices"
	"testing"

	"withy/api"
	"withy/head"
	"withy/mark"
	"withy/mem"
	"withy/plan"
	"withy/shade"
)

// most is how many touches a teller tells at most: in some memories a Mark never ends.
const most = 6000

// teller does what the chapter says of a Mark in one go, with nobody else about, and writes down the touches.
type teller struct {
	c            api.Config
	e            uint64
	words        []uint64
	touches      []api.Touch
	passes, cuts int
	least        uint64
	wait         []int
}

func (o *teller) load(at int) uint64 {
	o.touches = append(o.touches, load(at, o.words[at]))
	return o.words[at]
}

func (o *teller) store(at int, now uint64) {
	o.touches = append(o.touches, store(at, o.words[at], now))
	o.words[at] = now
}

func (o *teller) swap(at int, was, now uint64) bool {
	if o.words[at] != was {
		o.touches = append(o.touches, swap(at, o.words[at], o.words[at]))
		return false
	}
	o.touches = append(o.touches, swap(at, was, now))
	o.words[at] = now
	return true
}

func (o *teller) add(by uint64) {
	was := o.words[plan.Grays]
	o.touches = append(o.touches, grow(was, was+by))
	o.words[plan.Grays] = was + by
}

// right tells whether a word is a right header's.
func right(w uint64) bool {
	return w&7 <= 4 && w>>9&127 == 0
}

// lives tells whether a word is the header of a node or a record.
func lives(w uint64) bool {
	return right(w) && (w&7 == api.Node || w&7 == api.Record)
}

// gray tells whether a word is a right header's that is gray.
func gray(w uint64) bool {
	return right(w) && w&16 != 0
}

// find shades the slot of a number and 1.
func (o *teller) find(w uint64) {
	if w == 0 || w > uint64(o.c.Slots) {
		return
	}
	slot := int(w) - 1
	at := plan.Header(o.c, slot)
	was := o.load(at)
	if !lives(was) || int(was>>3&1) == black(o.e) {
		return
	}
	o.add(1)
	o.swap(at, was, was&^8|uint64(black(o.e))<<3|16)
	if len(o.wait) < o.c.Stack {
		o.wait = append(o.wait, slot)
	}
}

// roots finds what is held.
func (o *teller) roots() {
	for who := range o.c.Clients {
		for i := range o.c.Handles {
			o.find(o.load(plan.Entry(o.c, who, i)) & (1<<32 - 1))
		}
	}
	for who := range o.c.Clients {
		o.find(o.load(plan.Start(o.c, who)))
	}
}

// through loads a slot's header, goes through it, if it is gray, and tells whether it was.
func (o *teller) through(slot int) bool {
	at := plan.Header(o.c, slot)
	w := o.load(at)
	if !gray(w) || !lives(w) {
		return false
	}
	if w&7 == api.Node {
		for i := range min(int(w>>5&15), bodySize(o.c)) {
			o.find(o.load(plan.Body(o.c, slot, i)))
		}
	} else {
		o.find(o.load(plan.Body(o.c, slot, value)))
		stamped := o.load(plan.Body(o.c, slot, stamp))
		next := o.load(plan.Body(o.c, slot, older))
		o.find(next)
		if next > 0 && next <= uint64(o.c.Slots) && stamped > 0 && stamped <= o.least {
			o.store(plan.Body(o.c, slot, older), 0)
			o.cuts++
		}
	}
	for !o.swap(at, w, w&^16) { // a gray one that wasn't marked, and was found from itself, is another one by now
		w = o.load(at)
	}
	o.add(1<<64 - 1)
	return true
}

// mark tells whether the Mark ends.
func (o *teller) mark() bool {
	o.least = o.load(plan.Clock)
	for who := range o.c.Clients {
		if w := o.load(plan.View(o.c, who)); w == 1 {
			o.least = 0
		} else if w > 1 && w-2 < o.least {
			o.least = w - 2
		}
	}
	o.roots()
	for len(o.touches) < most {
		for slot := range o.c.Slots {
			going := o.through(slot)
			for going && len(o.wait) > 0 {
				last := o.wait[len(o.wait)-1]
				o.wait = o.wait[:len(o.wait)-1]
				o.through(last)
			}
		}
		o.passes++
		if o.load(plan.Grays) == 0 {
			return true
		}
	}
	return false
}

// found is what Found should tell: it looks at all slots, again and again, till nothing more is found.
func found(c api.Config, words []uint64, e uint64) []bool {
	l, from := make([]bool, c.Slots), make([]bool, c.Slots)
	for slot := range c.Slots {
		w := words[plan.Header(c, slot)]
		l[slot] = lives(w) && int(w>>3&1) == black(e)
		from[slot] = gray(w)
	}
	find := func(w uint64) {
		if w > 0 && w <= uint64(c.Slots) && lives(words[plan.Header(c, int(w)-1)]) && !l[w-1] {
			l[w-1], from[w-1] = true, true
		}
	}
	for who := range c.Clients {
		find(words[plan.Start(c, who)])
		for i := range c.Handles {
			find(words[plan.Entry(c, who, i)] & (1<<32 - 1))
		}
	}
	for range c.Slots + 1 {
		for slot, going := range from {
			if !going {
				continue
			}
			body := words[plan.Body(c, slot, 0):]
			switch w := words[plan.Header(c, slot)]; w & 7 {
			case api.Node:
				for i := range min(int(w>>5&15), bodySize(c)) {
					find(body[i])
				}
			case api.Record:
				find(body[value])
				find(body[older])
			}
		}
	}
	return l
}

// sound tells whether P13.4 holds of words: as many grays as gray slots, all of them marked.
func sound(c api.Config, words []uint64, e uint64) bool {
	n := uint64(0)
	for slot := range c.Slots {
		if w := words[plan.Header(c, slot)]; gray(w) {
			n++
			if !head.Marked(w, e) {
				return false
			}
		}
	}
	return words[plan.Grays] == n
}

// alone has a Mark work alone over words, holds each step's touch and all else against the teller's, and Found against what is marked then; and is what the teller came to.
func alone(t *testing.T, c api.Config, words []uint64, e uint64) *teller {
	t.Helper()
	k, o := &bench{t: t, c: c, m: mem.Of(words)}, &teller{c: c, e: e, words: slices.Clone(words)}
	ended := o.mark()
	s := mark.NewMark(c, e)
	for i, touch := range o.touches {
		k.step(s, ended && i == len(o.touches)-1, touch)
	}
	isMark(t, s, o.passes, o.cuts)
	if !slices.Equal(k.m.Words(), o.words) {
		t.Fatalf("%+v: other words were changed", c)
	}
	want := found(c, words, e)
	if got := mark.Found(c, words, e); !slices.Equal(got, want) {
		t.Fatalf("%+v: Found: %v, want %v", c, got, want)
	}
	if sound(c, words, e) {
		same(t, "a Mark ends", ended, true)
		same(t, "grays", o.words[plan.Grays], 0)
		same(t, "gray slots", shade.Grays(c, k.m.Words()), 0)
		for slot := range c.Slots {
			same(t, "marked", head.Marked(k.head(slot), e), want[slot])
		}
	}
	if ended {
		k.over(s)
		isMark(t, s, o.passes, o.cuts)
	}
	return o
}

// P13.1: over a memory in which nothing was done: one pass, and all that is touched is loaded.
func TestNewMemory(t *testing.T) {
	for _, c := range configs() {
		for _, e := range epochs() {
			o := alone(t, c, plan.Memory(c).Words(), e)
			same(t, "touches", len(o.touches), 1+2*c.Clients+c.Clients*c.Handles+c.Slots+1)
			same(t, "Passes", o.passes, 1)
			same(t, "words that are changed", slices.Equal(o.words, plan.Memory(c).Words()), true)
		}
	}
}

// drawHeap is words of a memory, in which slots are of all kinds, and name one another; so many of ten are nodes and records, and gray are those that are marked, and of no other mark.
func drawHeap(c api.Config, e uint64, many int, seed *uint64) []uint64 {
	words := plan.Memory(c).Words()
	words[plan.Clock] = uint64(1 + draw(seed)%6)
	slot := func() uint64 {
		if draw(seed)%4 == 0 {
			return 0
		}
		return uint64(1 + draw(seed)%c.Slots)
	}
	for s := range c.Slots {
		h := api.Header{Kind: draw(seed) % 5, Mark: 1 - black(e), Gen: draw(seed) % 9}
		if draw(seed)%10 < many {
			h.Kind = api.Node + draw(seed)%2
		}
		if draw(seed)%6 == 0 {
			h.Mark = black(e)
			h.Gray = draw(seed)%2 == 0 && (h.Kind == api.Node || h.Kind == api.Record)
		}
		for i := range bodySize(c) {
			words[plan.Body(c, s, i)] = slot()
		}
		switch h.Kind {
		case api.Node:
			h.Arity = draw(seed) % (c.Arity + 1)
		case api.Record:
			words[plan.Body(c, s, stamp)] = uint64(draw(seed) % 7)
		}
		if h.Gray {
			words[plan.Grays]++
		}
		words[plan.Header(c, s)], _ = head.Pack(h)
	}
	for who := range c.Clients {
		words[plan.View(c, who)] = []uint64{0, 0, 0, 1, 2, 3, 4, 5, 6, 7, 99}[draw(seed)%11]
		if draw(seed)%3 == 0 {
			words[plan.Start(c, who)] = slot()
		}
		if draw(seed)%2 == 0 {
			words[plan.Entry(c, who, draw(seed)%c.Handles)] = uint64(draw(seed))<<32 | slot()
		}
	}
	return words
}

// P13.1 to P13.4: a Mark alone, step by step, over many heaps that are as they should be; with none that can wait, few, and more than there are slots.
func TestManyHeaps(t *testing.T) {
	passes, cuts, ended := 0, 0, 0
	for _, c := range append(configs(), config(12, 0), config(12, 1), config(12, 2), config(12, 64)) {
		for n := range uint64(300) {
			seed := n
			e := uint64(n % 9)
			o := alone(t, c, drawHeap(c, e, 3+int(n%7), &seed), e)
			passes = max(passes, o.passes)
			cuts += o.cuts
			ended++
		}
	}
	if passes < 5 || cuts < 1000 {
		t.Errorf("of %d Marks the longest had %d passes, and all cut %d times: too few", ended, passes, cuts)
	}
}

// wild spoils words: headers of all sorts, gray and not, that aren't right too, and words that name no slot; and a number of grays that may be another one.
func wild(c api.Config, words []uint64, seed *uint64) {
	l := append(strangers(c), noHeaders()...)
	for range 1 + draw(seed)%8 {
		words[draw(seed)%len(words)] = l[draw(seed)%len(l)]
	}
	for s := range c.Slots {
		at := plan.Header(c, s)
		switch draw(seed) % 12 {
		case 0:
			words[at] |= 16
		case 1:
			words[at] ^= 8
		case 2:
			words[at] = noHeaders()[draw(seed)%len(noHeaders())]
		case 3:
			words[at] |= 15 << 5
		}
	}
	words[plan.Grays] = uint64(shade.Grays(c, words))
	if draw(seed)%4 == 0 {
		words[plan.Grays] += uint64(draw(seed)%3) - 1
	}
}

// P13.1 to P13.3: a Mark alone, step by step, over many memories that are as they should not be. In some it never ends, and is followed for a while.
func TestWildMemories(t *testing.T) {
	ended, others := 0, 0
	for _, c := range append(configs(), config(12, 0), config(12, 3)) {
		for n := range uint64(120) {
			seed := n
			e := uint64(n % 9)
			words := drawHeap(c, e, 5, &seed)
			wild(c, words, &seed)
			o := alone(t, c, words, e)
			if len(o.touches) < most {
				ended++
			} else {
				others++
			}
		}
	}
	if ended < 100 || others < 100 {
		t.Errorf("%d Marks ended, and %d didn't: too few", ended, others)
	}
}
