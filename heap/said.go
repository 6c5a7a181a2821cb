package heap

import (
	"iter"

	"withy/api"
	"withy/head"
	"withy/plan"
	"withy/tag"
)

// none is told where no slot is named.
const none = -1

// The words of a record's body.
const (
	valueWord = iota // what it gives the field
	stampWord        // what the clock was; 0 as long as it has none
	olderWord        // the next older record
)

// unstamped is the stamp of a record that has none.
const unstamped = 0

// noView is a view by which no record counts as the last one that is needed: none has a stamp as low as that.
const noView = unstamped

// What a view word is.
const (
	noWalk    = iota // the client has no walk
	soonAWalk        // it is about to have one
	aWalk            // this, and the walk's view
)

// said is the words of a memory of a config, for what they say.
type said struct {
	c     api.Config
	words []uint64
}

// read tells whether words are of a memory of a config.
func read(c api.Config, words []uint64) (said, bool) {
	return said{c, words}, plan.Right(c) && len(words) == plan.Size(c)
}

// kind is a slot's; what has no right header is nothing, as a free one.
func (s said) kind(slot int) int {
	h, _ := head.Unpack(s.words[plan.Header(s.c, slot)])
	return h.Kind
}

// lives tells whether a slot does.
func (s said) lives(slot int) bool {
	kind := s.kind(slot)
	return kind == api.Node || kind == api.Record
}

// slot is the slot of a word that is a slot's number and 1. It is held against the config ahead of becoming an int, because a word of many bits would come out below 0, or as another number.
func (s said) slot(w uint64) int {
	if w > uint64(s.c.Slots) {
		return none
	}
	return int(w) - 1
}

// named is the slot that the word at a place names.
func (s said) named(at int) int {
	return s.slot(s.words[at])
}

// held is the slot that the entry at a place names.
func (s said) held(at int) int {
	_, slot := tag.EntryParts(s.words[at])
	return s.slot(uint64(slot + 1))
}

// roots goes through the slots that entries and walks' starts name.
func (s said) roots(yield func(slot int) bool) {
	for who := range s.c.Clients {
		for i := range s.c.Handles {
			if slot := s.held(plan.Entry(s.c, who, i)); slot != none && !yield(slot) {
				return
			}
		}
		if slot := s.named(plan.Start(s.c, who)); slot != none && !yield(slot) {
			return
		}
	}
}

// names goes through the slots that a slot names, in a view.
func (s said) names(slot int, view uint64) iter.Seq[int] {
	return func(yield func(slot int) bool) {
		for _, i := range s.naming(slot, view) {
			if to := s.named(plan.Body(s.c, slot, i)); to != none && !yield(to) {
				return
			}
		}
	}
}

// naming is the words of a slot's body by which it names others, in a view.
func (s said) naming(slot int, view uint64) []int {
	switch s.kind(slot) {
	case api.Node:
		return s.fields(slot)
	case api.Record:
		if s.lastIn(slot, view) {
			return []int{valueWord}
		}
		return []int{valueWord, olderWord}
	}
	return nil
}

// fields is a node's fields: no more than there are words in its body, whatever its header says.
func (s said) fields(slot int) []int {
	h, _ := head.Unpack(s.words[plan.Header(s.c, slot)])
	var l []int
	for i := range h.Arity {
		if plan.Body(s.c, slot, i) >= 0 {
			l = append(l, i)
		}
	}
	return l
}

// lastIn tells whether no view from this one on needs what is older than a record.
func (s said) lastIn(rec int, view uint64) bool {
	stamp := s.words[plan.Body(s.c, rec, stampWord)]
	return stamp != unstamped && stamp <= view
}

// value is what a record has. What is no record, though a field names it, has nothing.
func (s said) value(rec int) int {
	if rec == none || s.kind(rec) != api.Record {
		return none
	}
	return s.named(plan.Body(s.c, rec, valueWord))
}

// leastView is the least one that a walk has, or may yet have.
func (s said) leastView() uint64 {
	least := s.words[plan.Clock]
	for who := range s.c.Clients {
		switch w := s.words[plan.View(s.c, who)]; w {
		case noWalk:
		case soonAWalk:
			least = noView
		default:
			least = min(least, w-aWalk)
		}
	}
	return least
}

// reached is which slots are reached, in a view.
func (s said) reached(view uint64) []bool {
	is := make([]bool, s.c.Slots)
	var row []int
	meet := func(slot int) {
		if s.lives(slot) && !is[slot] {
			is[slot] = true
			row = append(row, slot)
		}
	}
	for slot := range s.roots {
		meet(slot)
	}
	for i := 0; i < len(row); i++ {
		for slot := range s.names(row[i], view) {
			meet(slot)
		}
	}
	return is
}
