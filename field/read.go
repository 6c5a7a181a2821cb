package field

import (
	"withy/api"
	"withy/mem"
)

// Where a Read is.
const (
	readFind  = iota // on the way to the newest record
	readValue        // at its value
	readEnd          // the work is done
)

// Where a See is. A record that isn't seen leads to its older one, and from there back to a stamp.
const (
	seeFind  = iota // on the way to the newest record
	seeStamp        // at a record's stamp
	seeValue        // at its value
	seeOlder        // at the next older one
	seeEnd          // the work is done
)

// Read reads a field.
type Read struct {
	Rec, Val, Point int
	newest
	at int
}

// See sees a field in a view. The record that it is at is the newest one first, then an older one after the other.
type See struct {
	Val int
	newest
	view uint64
	at   int
}

// NewRead is a machine that reads a field.
func NewRead(c api.Config, node, i int, b *Book) *Read {
	n, ok := newestOf(c, node, i, b)
	if !ok {
		return nil
	}
	return &Read{Rec: none, Val: none, newest: n}
}

// Step goes a step on.
func (r *Read) Step(m *mem.Mem) bool {
	if r == nil || r.b == nil {
		return true
	}
	switch r.at {
	case readFind:
		r.findNewest(m)
	case readValue:
		r.end(r.loadSlot(m, valueWord))
	}
	return r.at == readEnd
}

// findNewest has the work be done, where there is no record.
func (r *Read) findNewest(m *mem.Mem) {
	if !r.find(m) {
		return
	}
	r.at = readValue
	if r.rec == none {
		r.end(none)
	}
}

// end tells what was found.
func (r *Read) end(val int) {
	r.Rec, r.Val, r.Point = r.rec, val, r.point()
	r.at = readEnd
}

// NewSee is a machine that sees a field in a view.
func NewSee(c api.Config, node, i int, view uint64, b *Book) *See {
	n, ok := newestOf(c, node, i, b)
	if !ok {
		return nil
	}
	return &See{Val: none, newest: n, view: view}
}

// Step goes a step on.
func (s *See) Step(m *mem.Mem) bool {
	if s == nil || s.b == nil {
		return true
	}
	switch s.at {
	case seeFind:
		if s.find(m) {
			s.goOn()
		}
	case seeStamp:
		s.loadStamp(m)
	case seeValue:
		s.Val = s.loadSlot(m, valueWord)
		s.at = seeEnd
	case seeOlder:
		s.rec = s.loadSlot(m, olderWord)
		s.goOn()
	}
	return s.at == seeEnd
}

// goOn goes on with the record that was come to, or has the work be done without one.
func (s *See) goOn() {
	s.at = seeStamp
	if s.rec == none {
		s.at = seeEnd
	}
}

// loadStamp looks whether the record is seen.
func (s *See) loadStamp(m *mem.Mem) {
	s.at = seeOlder
	if s.load(m, stampWord) <= s.view {
		s.at = seeValue
	}
}
