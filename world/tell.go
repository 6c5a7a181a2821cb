package world

import (
	"slices"

	"withy/api"
)

// none is told where there is no slot.
const none = -1

// Now is the time.
func (w *World) Now() int {
	if !w.made() {
		return 0
	}
	return w.b.Now
}

// Busy tells whether a client has a call under way.
func (w *World) Busy(who int) bool {
	return w.has(who) && w.clients[who].Busy()
}

// Done tells whether nothing is left to do.
func (w *World) Done() bool {
	if !w.made() {
		return false
	}
	for who := range w.clients {
		if w.left(who) {
			return false
		}
	}
	return true
}

// Events is what is over.
func (w *World) Events() []api.Event {
	if !w.made() {
		return nil
	}
	return slices.Clone(w.events)
}

// Told is what a client's operations were answered.
func (w *World) Told(who int) []uint64 {
	if !w.has(who) {
		return nil
	}
	return slices.Clone(w.told[who])
}

// Holds is what a client holds by a handle; -1: none.
func (w *World) Holds(who int, h uint64) int {
	if !w.has(who) {
		return none
	}
	return w.clients[who].Holds(h)
}

// Words is the memory's words.
func (w *World) Words() []uint64 {
	if !w.made() {
		return nil
	}
	return w.m.Words()
}

// Touches is how many touches there were.
func (w *World) Touches() int {
	if !w.made() {
		return 0
	}
	return w.m.Touches()
}

// Last is the last touch.
func (w *World) Last() api.Touch {
	if !w.made() {
		return api.Touch{}
	}
	return w.m.Last()
}

// Epoch is the collector's epoch.
func (w *World) Epoch() uint64 {
	if !w.made() {
		return 0
	}
	return w.gc.E
}

// Cycles is how many cycles there were.
func (w *World) Cycles() int {
	if !w.made() {
		return 0
	}
	return w.gc.Cycles
}
