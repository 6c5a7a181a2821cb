package field

import (
	"withy/api"
	"withy/mem"
	"withy/plan"
)

// Where a Stamp is: at what its next step touches.
const (
	stampLoad  = iota // the stamp, to be loaded
	stampClock        // the clock
	stampSwap         // the stamp, to be swapped
	stampEnd          // nothing: the work is done
)

// Where a Turn is.
const (
	turnLoad = iota // at the clock, to be loaded
	turnSwap        // at the clock, to be swapped
	turnEnd         // the work is done
)

// Stamp stamps a record.
type Stamp struct {
	b     *Book
	rec   int
	place int // where the record's stamp stands
	at    int
	clock uint64 // as it was loaded
	point int    // when it was loaded
}

// Turn turns the clock.
type Turn struct {
	View  uint64
	Point int
	b     *Book
	at    int
	clock uint64 // as it was loaded
}

// stampOf is what stamps a record that there is.
func stampOf(c api.Config, rec int, b *Book) Stamp {
	return Stamp{b: b, rec: rec, place: plan.Body(c, rec, stampWord)}
}

// NewStamp is a machine that stamps a record.
func NewStamp(c api.Config, rec int, b *Book) *Stamp {
	s := stampOf(c, rec, b)
	if s.place < 0 || b == nil {
		return nil
	}
	return &s
}

// Step goes a step on. Here and in the other machines: one that no maker made has no book, and no work.
func (s *Stamp) Step(m *mem.Mem) bool {
	if s == nil || s.b == nil {
		return true
	}
	switch s.at {
	case stampLoad:
		s.loadStamp(m)
	case stampClock:
		s.clock = m.Load(plan.Clock)
		s.point = s.b.Now
		s.at = stampSwap
	case stampSwap:
		s.swapStamp(m)
	}
	return s.at == stampEnd
}

// loadStamp has the work be done, where another one did it.
func (s *Stamp) loadStamp(m *mem.Mem) {
	s.at = stampClock
	if m.Load(s.place) != unstamped {
		s.at = stampEnd
	}
}

// swapStamp leaves a record that another one stamped meanwhile with that one's stamp, and point.
func (s *Stamp) swapStamp(m *mem.Mem) {
	if m.Swap(s.place, unstamped, s.clock) {
		s.b.noteBorn(s.rec, s.point)
	}
	s.at = stampEnd
}

// NewTurn is a machine that turns the clock.
func NewTurn(c api.Config, b *Book) *Turn {
	if !plan.Right(c) || b == nil {
		return nil
	}
	return &Turn{b: b}
}

// Step goes a step on.
func (t *Turn) Step(m *mem.Mem) bool {
	if t == nil || t.b == nil {
		return true
	}
	switch t.at {
	case turnLoad:
		t.clock = m.Load(plan.Clock)
		t.at = turnSwap
	case turnSwap:
		t.swapClock(m)
	}
	return t.at == turnEnd
}

// swapClock is content with a clock that another one turned meanwhile: the view is the same, and its point is that one's.
func (t *Turn) swapClock(m *mem.Mem) {
	if m.Swap(plan.Clock, t.clock, t.clock+1) {
		t.b.noteTurned(t.clock)
	}
	t.View = t.clock
	t.Point = t.b.Turned(t.clock)
	t.at = turnEnd
}
