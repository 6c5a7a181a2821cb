package field

import (
	"withy/api"
	"withy/mem"
	"withy/plan"
	"withy/shade"
	"withy/turn"
)

// Where a Lay is. A swap that isn't done leads back to the first of these.
const (
	layFind  = iota // on the way to the record that is the newest yet
	layValue        // at that one's value
	layOlder        // at the new one's next older one
	layShade        // at what shades the one that was the newest
	laySwap         // at the field
	layStamp        // at what stamps the new one
	layEnd          // the work is done
)

// Lay lays a record on a field.
type Lay struct {
	Laid  bool
	Point int
	newest
	fresh  int // the record that is laid
	expect int
	e      uint64
	shade  *shade.Shade
	at     int
}

// NewLay is a machine that lays a record on a field: whatever that has, if expect is below -1, else if expect is its value.
func NewLay(c api.Config, node, i, rec, expect int, e uint64, b *Book) *Lay {
	n, ok := newestOf(c, node, i, b)
	if !ok || plan.Body(c, rec, olderWord) < 0 {
		return nil
	}
	return &Lay{newest: n, fresh: rec, expect: expect, e: e}
}

// Step goes a step on.
func (l *Lay) Step(m *mem.Mem) bool {
	if l == nil || l.b == nil {
		return true
	}
	switch l.at {
	case layFind:
		l.findNewest(m)
	case layValue:
		l.compare(l.loadSlot(m, valueWord))
	case layOlder:
		l.storeOlder(m)
	case layShade:
		if l.shade.Step(m) {
			l.at = laySwap
		}
	case laySwap:
		l.swapField(m)
	case layStamp:
		l.stampFresh(m)
	}
	return l.at == layEnd
}

// findNewest stamps what is to be older first, so that stamps never rise from a record to its older one.
func (l *Lay) findNewest(m *mem.Mem) {
	if !l.find(m) {
		return
	}
	switch {
	case l.expect < none:
		l.at = layOlder
	case l.rec == none:
		l.compare(none)
	default:
		l.at = layValue
	}
}

// compare has the work be done, where the field has another value than what is expected.
func (l *Lay) compare(val int) {
	l.at = layOlder
	if val != l.expect {
		l.Point = l.point()
		l.at = layEnd
	}
}

// storeOlder goes by the barrier, where there is one, ahead of the swap that takes the field's record away.
func (l *Lay) storeOlder(m *mem.Mem) {
	m.Store(plan.Body(l.c, l.fresh, olderWord), naming(l.rec))
	l.at = laySwap
	if l.rec != none && turn.Fenced(l.e) {
		l.shade = shade.NewShade(l.c, l.rec, l.e)
		l.at = layShade
	}
}

// swapField lays the record, or begins anew.
func (l *Lay) swapField(m *mem.Mem) {
	l.at = layFind
	if m.Swap(l.field, l.word, naming(l.fresh)) {
		l.stamp = stampOf(l.c, l.fresh, l.b)
		l.at = layStamp
	}
}

// stampFresh tells the new one's point, whoever stamped it.
func (l *Lay) stampFresh(m *mem.Mem) {
	if l.stamp.Step(m) {
		l.Laid = true
		l.Point = l.b.Born(l.fresh)
		l.at = layEnd
	}
}
