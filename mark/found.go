package mark

import (
	"withy/api"
	"withy/head"
	"withy/plan"
	"withy/tag"
)

// none is told where no slot is named.
const none = -1

// named is the slot of a word that is a slot's number and 1. It is held against the config ahead of becoming an int, because a word of many bits would come out below 0, or as another number.
func named(c api.Config, w uint64) int {
	if w > uint64(c.Slots) {
		return none
	}
	return int(w) - 1
}

// fields is how many fields a node has: no more than there are words in its body, whatever its header says.
func fields(c api.Config, arity int) int {
	n := 0
	for n < arity && plan.Body(c, 0, n) >= 0 {
		n++
	}
	return n
}

// roots is the slots that entries and starts name; none may be among them.
func roots(c api.Config, words []uint64) []int {
	var l []int
	for who := range c.Clients {
		for i := range c.Handles {
			_, slot := tag.EntryParts(words[plan.Entry(c, who, i)])
			l = append(l, named(c, uint64(slot+1)))
		}
		l = append(l, named(c, words[plan.Start(c, who)]))
	}
	return l
}

// names is the slots that a slot names, once it is gone through; none may be among them. What is cut off is found, too, ahead of that.
func names(c api.Config, words []uint64, slot int) []int {
	var l []int
	name := func(i int) {
		l = append(l, named(c, words[plan.Body(c, slot, i)]))
	}
	h, _ := head.Unpack(words[plan.Header(c, slot)])
	switch h.Kind {
	case api.Node:
		for i := range fields(c, h.Arity) {
			name(i)
		}
	case api.Record:
		name(valueWord)
		name(olderWord)
	}
	return l
}

// Found tells which slots are marked in the end, when nobody else does anything. What is marked and isn't gray was gone through before: nothing is found from it.
func Found(c api.Config, words []uint64, e uint64) []bool {
	if !plan.Right(c) || len(words) != plan.Size(c) {
		return nil
	}
	marked := make([]bool, c.Slots)
	var wait []int
	for slot := range c.Slots {
		w := words[plan.Header(c, slot)]
		marked[slot] = head.Marked(w, e)
		if _, gray := head.Blackened(w); gray {
			wait = append(wait, slot)
		}
	}
	find := func(slot int) {
		if slot == none || marked[slot] {
			return
		}
		if _, can := head.Shaded(words[plan.Header(c, slot)], e); can {
			marked[slot] = true
			wait = append(wait, slot)
		}
	}
	found := roots(c, words)
again:
	for _, slot := range found {
		find(slot)
	}
	if len(wait) == 0 {
		return marked
	}
	last := len(wait) - 1
	found = names(c, words, wait[last])
	wait = wait[:last]
	goto again
}
