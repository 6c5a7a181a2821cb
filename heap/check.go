package heap

import (
	"withy/api"
	"withy/head"
	"withy/plan"
	"withy/shade"
	"withy/stack"
)

// What Check answers.
const (
	Right = iota
	BadWords
	BadHead
	BadSlot
	BadList
	BadGrays
)

// Check is what is wrong with words.
func Check(c api.Config, words []uint64) int {
	s, ok := read(c, words)
	if !ok {
		return BadWords
	}
	list := stack.List(c, words)
	switch {
	case !s.rightHeads():
		return BadHead
	case !s.rightSlots(list):
		return BadSlot
	case !s.rightList(list):
		return BadList
	case words[plan.Grays] < uint64(shade.Grays(c, words)):
		return BadGrays
	}
	return Right
}

// rightHeads tells whether all slots' headers are right.
func (s said) rightHeads() bool {
	for slot := range s.c.Slots {
		if _, ok := head.Unpack(s.words[plan.Header(s.c, slot)]); !ok {
			return false
		}
	}
	return true
}

// rightSlots tells whether all that is named from the roots on lives, and is nobody's to be taken.
func (s said) rightSlots(list []int) bool {
	for slot := range s.roots {
		if !s.lives(slot) {
			return false
		}
	}
	reached := s.reached(noView)
	for slot, is := range reached {
		if is && !s.namesWhatLives(slot) {
			return false
		}
	}
	for _, slot := range list {
		if reached[slot] {
			return false
		}
	}
	return true
}

// namesWhatLives tells whether all that a slot names lives.
func (s said) namesWhatLives(slot int) bool {
	for to := range s.names(slot, noView) {
		if !s.lives(to) {
			return false
		}
	}
	return true
}

// rightList tells whether the free list has free slots alone, and is at its end: one in which a slot stands twice goes round, and has none. Not each free slot need be there: one that is being taken, or laid back, isn't.
func (s said) rightList(list []int) bool {
	for _, slot := range list {
		if s.kind(slot) != api.Free {
			return false
		}
	}
	return len(list) == 0 || s.named(plan.Link(s.c, list[len(list)-1])) == none
}
