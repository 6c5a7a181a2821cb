package iter_test

import (
	"math"
	"slices"
	"testing"

	"withy/api"
	"withy/field"
	"withy/mem"
	"withy/plan"
)

// teller does what the chapter says of a walk in one go, with nobody else about, and writes down the touches.
type teller struct {
	c       api.Config
	words   []uint64
	touches []api.Touch
}

func (o *teller) load(at int) uint64 {
	o.touches = append(o.touches, load(at, o.words[at]))
	return o.words[at]
}

// slot is the slot that a word names.
func (o *teller) slot(w uint64) int {
	for slot := range o.c.Slots {
		if w == uint64(slot)+1 {
			return slot
		}
	}
	return none
}

// stamp stamps a record that has no stamp.
func (o *teller) stamp(rec int) {
	at := plan.Body(o.c, rec, stamp)
	if o.load(at) == 0 {
		clock := o.load(plan.Clock)
		o.touches = append(o.touches, swap(at, 0, clock))
		o.words[at] = clock
	}
}

// see is what a field is seen to have.
func (o *teller) see(node, i int, view uint64) int {
	rec := o.slot(o.load(plan.Body(o.c, node, i)))
	if rec != none {
		o.stamp(rec)
	}
	for rec != none {
		if o.load(plan.Body(o.c, rec, stamp)) <= view {
			return o.slot(o.load(plan.Body(o.c, rec, value)))
		}
		rec = o.slot(o.load(plan.Body(o.c, rec, older)))
	}
	return none
}

// opens is what the fields of a node are seen to have, one by one; none is among them.
func (o *teller) opens(node int, view uint64) []int {
	w := o.load(plan.Header(o.c, node))
	var l []int
	for i := range int(w >> 5 & 15) {
		l = append(l, o.see(node, i, view))
	}
	return l
}

// drawnHeap is the words of a memory whose slots are nodes and records, drawn. Nodes mostly name records, and records have nodes, or none; some words name what they shouldn't, or no slot. What stands where records have their older ones has lower numbers, so that none leads round.
func drawnHeap(c api.Config, seed *uint64) []uint64 {
	words := plan.Memory(c).Words()
	words[plan.Clock] = uint64(1 + draw(seed, 6))
	nodes := (c.Slots + 2) / 3 // these are the slots 0, 3, 6, ..
	naming := func(node bool, below int) uint64 {
		n := draw(seed, nodes)
		switch {
		case draw(seed, 30) == 0:
			return []uint64{0, uint64(c.Slots) + 1, 1<<32 + 1, math.MaxUint64}[draw(seed, 4)]
		case draw(seed, 30) == 0:
			return uint64(draw(seed, below+1))
		case node:
			return uint64(3*n + 1)
		}
		slot := 3*n + 1 + draw(seed, 2)
		if slot >= below {
			return 0
		}
		return uint64(slot + 1)
	}
	for slot := range c.Slots {
		node := slot%3 == 0
		kind, arity := api.Record, 0
		if node {
			kind, arity = api.Node, c.Arity-draw(seed, c.Arity+1)/2
		}
		words[plan.Header(c, slot)] = uint64(kind+draw(seed, 2)<<3+arity<<5) + uint64(draw(seed, 9))<<16
		for i := range bodySize(c) {
			words[plan.Body(c, slot, i)] = naming(!node, c.Slots)
		}
		words[plan.Body(c, slot, older)] = naming(false, slot)
		if !node {
			words[plan.Body(c, slot, stamp)] = uint64(draw(seed, 7))
		}
	}
	return words
}

// P20.2, P20.3: walks alone over drawn heaps, held touch by touch against the chapter told in one go: what is met comes behind the row, once.
func TestAlone(t *testing.T) {
	seed := uint64(5)
	lengths := map[int]int{}
	for n := range 4000 {
		c := []api.Config{config(8, 1), config(13, 2), config(40, 4), config(64, 8), config(1, 2)}[n%5]
		words := drawnHeap(c, &seed)
		k := &bench{t: t, c: c, m: mem.Of(words), b: field.NewBook()}
		o := &teller{c: c, words: words}
		start, view := draw(&seed, c.Slots), uint64(draw(&seed, 8))
		if n%11 > 0 {
			start -= start % 3
		}
		w := k.walk(start, view)
		row := []int{start}
		for i := 0; i < len(row); i++ {
			k.isWalk(w, len(row)-i, row[i])
			o.touches = nil
			for _, node := range o.opens(row[i], view) {
				if node != none && !slices.Contains(row, node) {
					row = append(row, node)
				}
			}
			for j, touch := range o.touches {
				k.goes(w, none)
				k.step(w, j == len(o.touches)-1, touch)
			}
			k.over(w)
			k.isWalk(w, len(row)-i, row[i])
			k.goes(w, row[i])
		}
		k.isWalk(w, 0, none)
		k.over(w)
		if !slices.Equal(k.m.Words(), o.words) {
			t.Fatal("other words were changed")
		}
		lengths[len(row)]++
	}
	if len(lengths) < 15 || lengths[1] > 3000 {
		t.Errorf("too few long walks: %v", lengths)
	}
}
