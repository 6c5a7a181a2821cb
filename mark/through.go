package mark

import (
	"withy/api"
	"withy/head"
	"withy/mem"
	"withy/plan"
)

// The words of a record's body.
const (
	valueWord = iota // what it gives the field
	stampWord        // what the clock was; 0 as long as it has none
	olderWord        // the next older record
)

// unstamped is the stamp of a record that has none.
const unstamped = 0

// lessOne is what one is taken away by, where sums wrap round.
const lessOne = 1<<64 - 1

// goOnPassing goes a step on with a pass.
func (k *Mark) goOnPassing(m *mem.Mem) {
	switch k.at {
	case atSlot:
		k.loadSlot(m)
	case atWaiting:
		k.loadWaiting(m)
	case atField:
		w := k.load(m, k.field)
		k.field++
		k.find(named(k.c, w), k.nextField())
	case atValue:
		k.find(named(k.c, k.load(m, valueWord)), atStamp)
	case atStamp:
		k.stamp = k.load(m, stampWord)
		k.at = atOlder
	case atOlder:
		k.loadOlder(m)
	case atCut:
		m.Store(plan.Body(k.c, k.slot, olderWord), 0)
		k.Cuts++
		k.at = atBlack
	case atBlack:
		k.blacken(m)
	case atAgain:
		k.header = m.Load(plan.Header(k.c, k.slot))
		k.at = atBlack
	case atLess:
		m.Add(plan.Grays, lessOne)
		k.at = k.nextWaiting()
	}
}

// nextSlot is where a pass goes on with its next slot, or ends.
func (k *Mark) nextSlot() int {
	if k.next < k.c.Slots {
		return atSlot
	}
	return atGrays
}

// nextWaiting is where a pass goes on behind what was gone through: what waits comes ahead of its next slot.
func (k *Mark) nextWaiting() int {
	if k.waits > 0 {
		return atWaiting
	}
	return k.nextSlot()
}

// nextField is where a node goes on.
func (k *Mark) nextField() int {
	if k.field < k.fields {
		return atField
	}
	return atBlack
}

// loadSlot comes to the pass's next slot.
func (k *Mark) loadSlot(m *mem.Mem) {
	slot := k.next
	k.next++
	if !k.begin(m, slot) {
		k.at = k.nextSlot()
	}
}

// loadWaiting comes to the slot that waits last, which waits no more then. The pass may have gone through it already.
func (k *Mark) loadWaiting(m *mem.Mem) {
	k.waits--
	if !k.begin(m, k.wait[k.waits]) {
		k.at = k.nextWaiting()
	}
}

// begin loads a slot's header, and begins to go through it, if it is a gray node or record; and tells whether it does.
func (k *Mark) begin(m *mem.Mem, slot int) bool {
	k.slot = slot
	k.header = m.Load(plan.Header(k.c, slot))
	h, ok := head.Unpack(k.header)
	if !ok || !h.Gray {
		return false
	}
	switch h.Kind {
	case api.Node:
		k.field, k.fields = 0, fields(k.c, h.Arity)
		k.at = k.nextField()
	case api.Record:
		k.at = atValue
	default:
		return false
	}
	return true
}

// load loads a word of the body of what is gone through.
func (k *Mark) load(m *mem.Mem, i int) uint64 {
	return m.Load(plan.Body(k.c, k.slot, i))
}

// loadOlder finds the next older record, also where it is cut off: somebody may have come to it by now, so that it goes in the next cycle only.
func (k *Mark) loadOlder(m *mem.Mem) {
	older := named(k.c, k.load(m, olderWord))
	then := atBlack
	if older != none && k.stamp != unstamped && k.stamp <= k.least {
		then = atCut
	}
	k.find(older, then)
}

// blacken has what was gone through be gray no more.
func (k *Mark) blacken(m *mem.Mem) {
	now, _ := head.Blackened(k.header)
	k.at = atAgain
	if m.Swap(plan.Header(k.c, k.slot), k.header, now) {
		k.at = atLess
	}
}
