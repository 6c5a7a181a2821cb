package field_test

import (
	"math"
	"slices"
	"testing"

	"withy/api"
	"withy/field"
	"withy/plan"
)

// P10.3, P10.4: the document's example, step by step.
func TestExample(t *testing.T) {
	k := newBench(t, config(8))
	f, clock := k.body(0, 0), plan.Clock
	empty := field.NewRead(k.c, 0, 0, k.b)
	k.step(empty, true, load(f, 0))
	isRead(t, empty, none, none, 1)

	k.record(1, 3, 0, none)
	first := field.NewLay(k.c, 0, 0, 1, whatever, 0, k.b)
	k.step(first, false, load(f, 0))
	k.step(first, false, store(k.body(1, 2), 0, 0))
	k.step(first, false, swap(f, 0, 2))
	k.step(first, false, load(k.body(1, 1), 0))
	k.step(first, false, load(clock, 1))
	isLay(t, first, false, 0)
	same(t, "Born(1)", k.b.Born(1), none)
	k.step(first, true, swap(k.body(1, 1), 0, 1))
	isLay(t, first, true, 6)
	same(t, "Born(1)", k.b.Born(1), 6)

	turned := field.NewTurn(k.c, k.b)
	k.step(turned, false, load(clock, 1))
	same(t, "Turned(1)", k.b.Turned(1), none)
	k.step(turned, true, swap(clock, 1, 2))
	isTurn(t, turned, 1, 9)
	same(t, "Turned(1)", k.b.Turned(1), 9)

	k.record(2, 5, 0, none)
	second := field.NewLay(k.c, 0, 0, 2, whatever, 0, k.b)
	k.step(second, false, load(f, 2))
	k.step(second, false, load(k.body(1, 1), 1))
	k.step(second, false, store(k.body(2, 2), 0, 2))
	k.step(second, false, swap(f, 2, 3))
	k.step(second, false, load(k.body(2, 1), 0))
	k.step(second, false, load(clock, 2))
	k.step(second, true, swap(k.body(2, 1), 0, 2))
	isLay(t, second, true, 15)

	read := field.NewRead(k.c, 0, 0, k.b)
	k.step(read, false, load(f, 3))
	k.step(read, false, load(k.body(2, 1), 2))
	isRead(t, read, none, none, 0)
	k.step(read, true, load(k.body(2, 0), 6))
	isRead(t, read, 2, 5, 17)

	see := field.NewSee(k.c, 0, 0, turned.View, k.b)
	k.step(see, false, load(f, 3))
	k.step(see, false, load(k.body(2, 1), 2))
	k.step(see, false, load(k.body(2, 1), 2))
	k.step(see, false, load(k.body(2, 2), 2))
	k.step(see, false, load(k.body(1, 1), 1))
	same(t, "Val on the way", see.Val, none)
	k.step(see, true, load(k.body(1, 0), 4))
	same(t, "Val", see.Val, 3)
	k.over(see)
	k.over(read)
	k.over(second)
	k.over(turned)
	k.over(first)
	k.over(empty)
}

// P10.1: a book in which nothing is noted, and none.
func TestEmptyBooks(t *testing.T) {
	for _, b := range []*field.Book{field.NewBook(), nil} {
		for _, rec := range []int{math.MinInt, -1, 0, 1, 63, 64, math.MaxInt} {
			same(t, "Born", b.Born(rec), none)
		}
		for _, view := range []uint64{0, 1, 2, 1 << 31, 1 << 63, math.MaxUint64} {
			same(t, "Turned", b.Turned(view), none)
		}
	}
	same(t, "Now", field.NewBook().Now, 0)
}

// P10.1: a book of several records and views: each has its own point, and a slot that of the record that was stamped in it last. Another book knows nothing of it.
func TestFullBook(t *testing.T) {
	k := newBench(t, config(5))
	other := field.NewBook()
	born, turned := map[int]int{}, map[uint64]int{}
	for round := range 7 {
		for i := range k.c.Slots {
			rec := (i*3 + round) % k.c.Slots
			k.record(rec, none, 0, none)
			k.ends(field.NewStamp(k.c, rec, k.b))
			born[rec] = k.b.Now - 1
			for rec := range k.c.Slots {
				want, ok := born[rec]
				if !ok {
					want = none
				}
				same(t, "Born", k.b.Born(rec), want)
			}
		}
		view := k.m.Words()[plan.Clock]
		k.ends(field.NewTurn(k.c, k.b))
		turned[view] = k.b.Now
		for view, point := range turned {
			same(t, "Turned", k.b.Turned(view), point)
		}
		same(t, "Turned of the next one", k.b.Turned(view+1), none)
	}
	same(t, "Turned of the first one", k.b.Turned(1), 17)
	same(t, "Born, another book", other.Born(1), none)
	same(t, "Turned, another book", other.Turned(1), none)
	same(t, "Born, no slot", k.b.Born(none), none)
	same(t, "Turned, no view", k.b.Turned(0), none)
}

// P10.2: one alone, from its first step to its last, of each slot: its point is the time of the clock's load.
func TestStampAlone(t *testing.T) {
	for _, c := range configs() {
		for rec := range c.Slots {
			for _, clock := range []uint64{1, 2, 1<<31 - 1, 1 << 32, math.MaxUint64} {
				k := newBench(t, c)
				k.m.Store(plan.Clock, clock)
				k.b.Now = 40
				s := field.NewStamp(c, rec, k.b)
				k.step(s, false, load(k.body(rec, 1), 0))
				k.b.Now = 50
				k.step(s, false, load(plan.Clock, clock))
				k.b.Now = 60
				same(t, "Born ahead of the swap", k.b.Born(rec), none)
				k.step(s, true, swap(k.body(rec, 1), 0, clock))
				k.over(s)
				for other := range c.Slots {
					want := none
					if other == rec {
						want = 51
					}
					same(t, "Born", k.b.Born(other), want)
				}
			}
		}
	}
}

// P10.2: a record that has a stamp: one step, and nothing is noted.
func TestStampOfAStampedOne(t *testing.T) {
	k := newBench(t, config(3))
	for rec := range k.c.Slots {
		for _, stamp := range []uint64{1, 2, 1 << 32, 1 << 63, math.MaxUint64} {
			k.record(rec, 1, stamp, 2)
			s := field.NewStamp(k.c, rec, k.b)
			k.step(s, true, load(k.body(rec, 1), stamp))
			k.over(s)
			same(t, "Born", k.b.Born(rec), none)
		}
	}
}

// P10.2: a record that another one stamps between a Stamp's load of the stamp, or of the clock, and its swap: the first swap alone is done, and the point is that machine's.
func TestStampedMeanwhile(t *testing.T) {
	for turned := range 2 {
		k := newBench(t, config(2))
		at := k.body(1, 1)
		late, quick := field.NewStamp(k.c, 1, k.b), field.NewStamp(k.c, 1, k.b)
		k.step(late, false, load(at, 0))
		k.step(late, false, load(plan.Clock, 1))
		k.step(quick, false, load(at, 0))
		if turned == 1 {
			k.m.Store(plan.Clock, 2)
		}
		k.step(quick, false, load(plan.Clock, uint64(1+turned)))
		same(t, "Born ahead of the swaps", k.b.Born(1), none)
		k.step(quick, true, swap(at, 0, uint64(1+turned)))
		same(t, "Born", k.b.Born(1), 4)
		k.step(late, true, swap(at, uint64(1+turned), uint64(1+turned)))
		same(t, "Born", k.b.Born(1), 4)
		k.over(late)
		k.over(quick)
		same(t, "Born", k.b.Born(1), 4)
	}
	k := newBench(t, config(1))
	s := field.NewStamp(k.c, 0, k.b)
	k.step(s, false, load(k.body(0, 1), 0))
	k.m.Store(k.body(0, 1), 9)
	k.step(s, false, load(plan.Clock, 1))
	k.step(s, true, swap(k.body(0, 1), 9, 9))
	same(t, "Born", k.b.Born(0), none)
}

// P10.2: a clock that moves between a Stamp's load and its swap: the stamp, and the point, are as it was loaded.
func TestClockMovesUnderAStamp(t *testing.T) {
	k := newBench(t, config(1))
	s, u := field.NewStamp(k.c, 0, k.b), field.NewTurn(k.c, k.b)
	k.step(s, false, load(k.body(0, 1), 0))
	k.step(s, false, load(plan.Clock, 1))
	k.step(u, false, load(plan.Clock, 1))
	k.step(u, true, swap(plan.Clock, 1, 2))
	k.step(s, true, swap(k.body(0, 1), 0, 1))
	same(t, "Born", k.b.Born(0), 2)
	same(t, "Turned", k.b.Turned(1), 4)
}

// P10.2: one alone: the view is what the clock was, its point the time of the swap.
func TestTurnAlone(t *testing.T) {
	for _, c := range configs() {
		for _, clock := range []uint64{1, 2, 1<<31 - 1, 1 << 32, 1<<63 - 1, math.MaxUint64 - 1, math.MaxUint64} {
			k := newBench(t, c)
			k.m.Store(plan.Clock, clock)
			k.b.Now = 70
			u := field.NewTurn(c, k.b)
			k.step(u, false, load(plan.Clock, clock))
			isTurn(t, u, 0, 0)
			k.b.Now = 80
			k.step(u, true, swap(plan.Clock, clock, clock+1))
			isTurn(t, u, clock, 81)
			k.over(u)
			isTurn(t, u, clock, 81)
			same(t, "Turned", k.b.Turned(clock), 81)
			same(t, "Turned, the next one", k.b.Turned(clock+1), none)
			same(t, "Turned, the last one", k.b.Turned(clock-1), none)
		}
	}
}

// P10.2: a clock that another one turns between a Turn's load and its swap: once, or several times: the view is as it was loaded, its point that of the step that turned it on from there.
func TestClockMovesUnderATurn(t *testing.T) {
	for _, others := range []int{1, 2, 5} {
		k := newBench(t, config(1))
		late := field.NewTurn(k.c, k.b)
		k.step(late, false, load(plan.Clock, 1))
		for i := range others {
			u := field.NewTurn(k.c, k.b)
			k.ends(u)
			isTurn(t, u, uint64(1+i), 3+2*i)
		}
		now := uint64(1 + others)
		k.step(late, true, swap(plan.Clock, now, now))
		isTurn(t, late, 1, 3)
		k.over(late)
		isTurn(t, late, 1, 3)
		same(t, "Turned", k.b.Turned(now), none)
	}
	k := newBench(t, config(1))
	u := field.NewTurn(k.c, k.b)
	k.step(u, false, load(plan.Clock, 1))
	k.m.Store(plan.Clock, 5)
	k.step(u, true, swap(plan.Clock, 5, 5))
	isTurn(t, u, 1, none)
	same(t, "Turned", k.b.Turned(1), none)
}

// P10.3: a record that another one stamps between a Read's load of the field and its own stamp: the point is the time of the other's load of the clock, if that is later than the Read's first step, else that of this one.
func TestReadOfOneThatIsStampedMeanwhile(t *testing.T) {
	k := newBench(t, config(4))
	f, at := k.body(0, 2), k.body(3, 1)
	k.m.Store(f, 4)
	k.record(3, 2, 0, none)
	r, s := field.NewRead(k.c, 0, 2, k.b), field.NewStamp(k.c, 3, k.b)
	k.step(r, false, load(f, 4))
	k.step(s, false, load(at, 0))
	k.step(r, false, load(at, 0))
	k.step(s, false, load(plan.Clock, 1))
	k.step(r, false, load(plan.Clock, 1))
	k.step(s, true, swap(at, 0, 1))
	k.step(r, false, swap(at, 1, 1))
	k.step(r, true, load(k.body(3, 0), 3))
	isRead(t, r, 3, 2, 4)
	same(t, "Born", k.b.Born(3), 4)

	k.record(3, 2, 0, none)
	r, s = field.NewRead(k.c, 0, 2, k.b), field.NewStamp(k.c, 3, k.b)
	k.step(s, false, load(at, 0))
	k.step(s, false, load(plan.Clock, 1))
	k.step(r, false, load(f, 4))
	k.step(s, true, swap(at, 0, 1))
	k.step(r, false, load(at, 1))
	k.step(r, true, load(k.body(3, 0), 3))
	isRead(t, r, 3, 2, 11)
	same(t, "Born", k.b.Born(3), 10)
}

// P10.3: a Read that stamps the record itself: the point is the time at which it loaded the clock; a field that moves meanwhile does nothing to it.
func TestReadStamps(t *testing.T) {
	k := newBench(t, config(4))
	f := k.body(0, 0)
	k.m.Store(f, 2)
	k.record(1, 3, 0, none)
	r := field.NewRead(k.c, 0, 0, k.b)
	k.step(r, false, load(f, 2))
	k.m.Store(f, 3)
	k.step(r, false, load(k.body(1, 1), 0))
	k.m.Store(plan.Clock, 6)
	k.step(r, false, load(plan.Clock, 6))
	k.m.Store(plan.Clock, 7)
	k.step(r, false, swap(k.body(1, 1), 0, 6))
	k.step(r, true, load(k.body(1, 0), 4))
	isRead(t, r, 1, 3, 3)
	k.over(r)
	isRead(t, r, 1, 3, 3)
}

// P10.3: the points of times below 0, and of records whose point nobody noted.
func TestReadAtTimesBelowNone(t *testing.T) {
	k := newBench(t, config(2))
	k.b.Now = -90
	r := field.NewRead(k.c, 0, 0, k.b)
	k.ends(r)
	isRead(t, r, none, none, -89)
	k.m.Store(k.body(0, 0), 2)
	k.record(1, 0, 4, none)
	r = field.NewRead(k.c, 0, 0, k.b)
	k.ends(r)
	isRead(t, r, 1, 0, -88)
	k.record(1, 0, 0, none)
	r = field.NewRead(k.c, 0, 0, k.b)
	k.ends(r)
	isRead(t, r, 1, 0, -83)
	same(t, "Born", k.b.Born(1), -83)
}

// chain lays a row of records on a field, the newest one first, each with its slot as its value, and these stamps; the last one's older word is what is handed in.
func (k *bench) chain(f int, recs []int, stamps []uint64, last uint64) {
	k.m.Store(f, uint64(recs[0]+1))
	for i, rec := range recs {
		k.record(rec, rec, stamps[i], none)
		if i+1 < len(recs) {
			k.m.Store(k.body(rec, 2), uint64(recs[i+1]+1))
		} else {
			k.m.Store(k.body(rec, 2), last)
		}
	}
}

// P10.3: a row of records in views below every stamp, at each, between them, and above all, touch by touch; behind the last one the row is at its end by 0, or by a word that names no slot.
func TestSeeOfARow(t *testing.T) {
	c := config(9)
	recs, stamps := []int{8, 1, 4, 5}, []uint64{900, 70, 70, 3}
	for _, last := range append(noSlots(c), 0) {
		for _, view := range []uint64{0, 1, 2, 3, 4, 69, 70, 71, 899, 900, 901, 1 << 40, math.MaxUint64} {
			k := newBench(t, c)
			f := k.body(2, 1)
			k.chain(f, recs, stamps, last)
			want := none
			touches := []api.Touch{load(f, 9), load(k.body(8, 1), 900)}
			for i, rec := range recs {
				touches = append(touches, load(k.body(rec, 1), stamps[i]))
				if stamps[i] <= view {
					want = rec
					touches = append(touches, load(k.body(rec, 0), uint64(rec+1)))
					break
				}
				touches = append(touches, load(k.body(rec, 2), k.m.Words()[k.body(rec, 2)]))
			}
			s := field.NewSee(c, 2, 1, view, k.b)
			k.steps(s, touches)
			same(t, "Val", s.Val, want)
		}
	}
}

// P10.3: records that lead to themselves, or round: what is seen ahead of that is told; without any it goes on and on, one touch a step, till there is one.
func TestSeeOfARound(t *testing.T) {
	for _, k := range []struct {
		recs []int
		last uint64
	}{{[]int{1}, 2}, {[]int{1, 2}, 3}, {[]int{1, 2}, 2}, {[]int{3, 1, 2}, 4}, {[]int{3, 1, 2}, 2}} {
		stamps := []uint64{9, 8, 7}[:len(k.recs)]
		f := newBench(t, config(4))
		f.chain(f.body(0, 0), k.recs, stamps, k.last)
		s := field.NewSee(f.c, 0, 0, stamps[len(stamps)-1], f.b)
		f.ends(s)
		same(t, "Val", s.Val, k.recs[len(k.recs)-1])

		s = field.NewSee(f.c, 0, 0, 6, f.b)
		for range 1000 {
			before := f.m.Touches()
			if s.Step(f.m) || f.m.Touches() != before+1 || f.m.Last().Kind != api.TLoad {
				t.Fatalf("a round of %v: the work is done, or another touch than a load: %+v", k.recs, f.m.Last())
			}
		}
		f.m.Store(f.body(k.recs[len(k.recs)-1], 1), 6)
		f.ends(s)
		same(t, "Val", s.Val, k.recs[len(k.recs)-1])
		f.over(s)
	}
}

// P10.3: a See stamps the newest record, if it has no stamp, with the clock, and by that with one that no view of ahead sees.
func TestSeeStamps(t *testing.T) {
	k := newBench(t, config(5))
	f := k.body(0, 0)
	k.chain(f, []int{1, 2}, []uint64{0, 1}, 0)
	k.m.Store(plan.Clock, 2)
	s := field.NewSee(k.c, 0, 0, 1, k.b)
	k.steps(s, []api.Touch{load(f, 2), load(k.body(1, 1), 0), load(plan.Clock, 2), swap(k.body(1, 1), 0, 2),
		load(k.body(1, 1), 2), load(k.body(1, 2), 3), load(k.body(2, 1), 1), load(k.body(2, 0), 3)})
	same(t, "Val", s.Val, 2)
	same(t, "Born", k.b.Born(1), 3)

	k.record(1, 4, 0, 2)
	s = field.NewSee(k.c, 0, 0, 1, k.b)
	k.step(s, false, load(f, 2))
	k.step(s, false, load(k.body(1, 1), 0))
	k.step(s, false, load(plan.Clock, 2))
	k.m.Store(k.body(1, 1), 1)
	k.step(s, false, swap(k.body(1, 1), 1, 1))
	k.step(s, false, load(k.body(1, 1), 1))
	k.step(s, true, load(k.body(1, 0), 5))
	same(t, "Val", s.Val, 4)
	same(t, "Born", k.b.Born(1), 3)
}

// P10.4: a field that moves between a Lay's load and its swap, once and several times: it begins anew, with what the field has then; at last the newest record is the older one of the new one.
func TestFieldMovesUnderALay(t *testing.T) {
	for _, times := range []int{1, 2, 3, 5} {
		k := newBench(t, config(8))
		f, older := k.body(7, 0), k.body(6, 2)
		k.record(6, 1, 0, none)
		l := field.NewLay(k.c, 7, 0, 6, whatever, 0, k.b)
		k.step(l, false, load(f, 0))
		k.step(l, false, store(older, 0, 0))
		was := uint64(0)
		for i := range times {
			now := uint64(i + 1)
			k.m.Store(f, now)
			k.record(i, 2, uint64(i%2)*5, none)
			k.step(l, false, swap(f, now, now))
			k.step(l, false, load(f, now))
			if i%2 == 1 {
				k.step(l, false, load(k.body(i, 1), 5))
			} else {
				k.step(l, false, load(k.body(i, 1), 0))
				k.step(l, false, load(plan.Clock, 1))
				k.step(l, false, swap(k.body(i, 1), 0, 1))
				same(t, "Born", k.b.Born(i), k.b.Now-1)
			}
			k.step(l, false, store(older, was, now))
			isLay(t, l, false, 0)
			was = now
		}
		k.step(l, false, swap(f, was, 7))
		k.step(l, false, load(k.body(6, 1), 0))
		k.step(l, false, load(plan.Clock, 1))
		k.step(l, true, swap(k.body(6, 1), 0, 1))
		isLay(t, l, true, k.b.Now-1)
		k.over(l)
	}
}

// P10.4: a field that moves under a Lay that expects something: what it has then is held against that anew, and the point is that of the last load.
func TestExpectedAnew(t *testing.T) {
	k := newBench(t, config(6))
	f, older := k.body(0, 0), k.body(5, 2)
	k.chain(f, []int{1}, []uint64{1}, 0)
	k.record(2, 1, 0, none)
	k.record(5, 4, 0, none)
	l := field.NewLay(k.c, 0, 0, 5, 1, 3, k.b)
	k.step(l, false, load(f, 2))
	k.step(l, false, load(k.body(1, 1), 1))
	k.step(l, false, load(k.body(1, 0), 2))
	k.step(l, false, store(older, 0, 2))
	k.m.Store(f, 3) // another record, with the value that is expected
	k.step(l, false, swap(f, 3, 3))
	k.step(l, false, load(f, 3))
	k.step(l, false, load(k.body(2, 1), 0))
	k.step(l, false, load(plan.Clock, 1))
	k.step(l, false, swap(k.body(2, 1), 0, 1))
	k.step(l, false, load(k.body(2, 0), 2))
	k.step(l, false, store(older, 2, 3))
	k.record(3, none, 1, 2)
	k.m.Store(f, 4) // one with another value
	k.step(l, false, swap(f, 4, 4))
	k.step(l, false, load(f, 4))
	k.step(l, false, load(k.body(3, 1), 1))
	k.step(l, true, load(k.body(3, 0), 0))
	isLay(t, l, false, 13)
	k.over(l)
	isLay(t, l, false, 13)

	l = field.NewLay(k.c, 0, 0, 5, none, 3, k.b)
	k.step(l, false, load(f, 4))
	k.step(l, false, load(k.body(3, 1), 1))
	k.step(l, false, load(k.body(3, 0), 0))
	k.step(l, false, store(older, 3, 4))
	k.m.Store(f, 0)
	k.step(l, false, swap(f, 0, 0))
	k.step(l, false, load(f, 0))
	k.step(l, false, store(older, 4, 0))
	k.step(l, false, swap(f, 0, 6))
	k.step(l, false, load(k.body(5, 1), 0))
	k.step(l, false, load(plan.Clock, 1))
	k.step(l, true, swap(k.body(5, 1), 0, 1))
	isLay(t, l, true, 25)
}

// P10.4: a Lay that isn't done has the point that a Read would have: that of the record, if it was stamped later than the field was loaded.
func TestRefusedBehindAStamp(t *testing.T) {
	k := newBench(t, config(4))
	f, at := k.body(0, 0), k.body(1, 1)
	k.chain(f, []int{1}, []uint64{0}, 0)
	l, s := field.NewLay(k.c, 0, 0, 2, 3, 0, k.b), field.NewStamp(k.c, 1, k.b)
	k.step(l, false, load(f, 2))
	k.step(s, false, load(at, 0))
	k.step(s, false, load(plan.Clock, 1))
	k.step(s, true, swap(at, 0, 1))
	k.step(l, false, load(at, 1))
	k.step(l, true, load(k.body(1, 0), 2))
	isLay(t, l, false, 3)

	k.chain(f, []int{1}, []uint64{0}, 0)
	l = field.NewLay(k.c, 0, 0, 2, 3, 0, k.b)
	k.ends(l)
	isLay(t, l, false, 9)
	k.b.Now = 100
	l = field.NewLay(k.c, 0, 0, 2, 3, 0, k.b)
	k.ends(l)
	isLay(t, l, false, 101)
}

// P10.4: a new record that another one stamps, once it is laid: the Lay tells the point by that one's load of the clock.
func TestLaidAndStampedByAnother(t *testing.T) {
	for _, late := range []bool{false, true} {
		k := newBench(t, config(3))
		f, at := k.body(0, 0), k.body(1, 1)
		k.record(1, 2, 0, none)
		l := field.NewLay(k.c, 0, 0, 1, none, 2, k.b)
		k.step(l, false, load(f, 0))
		k.step(l, false, store(k.body(1, 2), 0, 0))
		k.step(l, false, swap(f, 0, 2))
		if late {
			k.step(l, false, load(at, 0))
			k.step(l, false, load(plan.Clock, 1))
		}
		r := field.NewRead(k.c, 0, 0, k.b)
		k.ends(r)
		isLay(t, l, false, 0)
		if late {
			k.step(l, true, swap(at, 1, 1))
			isLay(t, l, true, 8)
			isRead(t, r, 1, 2, 8)
		} else {
			k.step(l, true, load(at, 1))
			isLay(t, l, true, 6)
			isRead(t, r, 1, 2, 6)
		}
		k.over(l)
	}
}

// P10.4: a record that is to be shaded, and whose header changes meanwhile, is shaded as chapter 9 says; when it can't be any more, the Lay goes on.
func TestHeaderMovesUnderALay(t *testing.T) {
	k := newBench(t, config(4))
	f, h := k.body(3, 0), plan.Header(k.c, 1)
	k.chain(f, []int{1}, []uint64{1}, 0)
	white := header(t, api.Header{Kind: api.Record})
	gray := header(t, api.Header{Kind: api.Record, Mark: 1, Gray: true})
	k.m.Store(h, white)
	l := field.NewLay(k.c, 3, 0, 2, whatever, 1, k.b)
	k.step(l, false, load(f, 2))
	k.step(l, false, load(k.body(1, 1), 1))
	k.step(l, false, store(k.body(2, 2), 0, 2))
	k.step(l, false, load(h, white))
	k.step(l, false, add(plan.Grays, 0, 1))
	k.m.Store(h, gray)
	k.step(l, false, swap(h, gray, gray))
	k.step(l, false, add(plan.Grays, 1, 0))
	k.step(l, false, load(h, gray))
	k.m.Store(f, 1) // it begins anew with a record that is shaded then
	k.record(0, 1, 1, none)
	k.m.Store(plan.Header(k.c, 0), white)
	k.step(l, false, swap(f, 1, 1))
	k.step(l, false, load(f, 1))
	k.step(l, false, load(k.body(0, 1), 1))
	k.step(l, false, store(k.body(2, 2), 2, 1))
	k.step(l, false, load(plan.Header(k.c, 0), white))
	k.step(l, false, add(plan.Grays, 0, 1))
	k.step(l, false, swap(plan.Header(k.c, 0), white, gray))
	k.step(l, false, swap(f, 1, 3))
	k.step(l, false, load(k.body(2, 1), 0))
	k.step(l, false, load(plan.Clock, 1))
	k.step(l, true, swap(k.body(2, 1), 0, 1))
	isLay(t, l, true, 18)
}

// P10.4: a record that has a stamp already is laid with that one; its point is what is noted of its slot, or none.
func TestLayOfAStampedOne(t *testing.T) {
	k := newBench(t, config(2))
	k.record(1, none, 9, none)
	l := field.NewLay(k.c, 0, 0, 1, whatever, 0, k.b)
	k.steps(l, []api.Touch{load(k.body(0, 0), 0), store(k.body(1, 2), 0, 0), swap(k.body(0, 0), 0, 2), load(k.body(1, 1), 9)})
	isLay(t, l, true, none)
}

// P10.4: an expect that is no slot's is another one than whatever the field has.
func TestExpectBeyondTheSlots(t *testing.T) {
	for _, expect := range []int{3, 4, 64, 65, 1 << 32, math.MaxInt} {
		for _, word := range []uint64{0, 4, 5, 65, 1<<32 + 1, math.MaxUint64} {
			k := newBench(t, config(3))
			k.m.Store(k.body(1, 0), word) // the value of the record
			k.m.Store(k.body(1, 1), 1)
			for _, f := range []uint64{0, 2, word} {
				k.m.Store(k.body(0, 0), f)
				l := field.NewLay(k.c, 0, 0, 2, expect, 1, k.b)
				words := k.m.Words()
				k.ends(l)
				same(t, "Laid", l.Laid, false)
				if !slices.Equal(words, k.m.Words()) {
					t.Fatal("a Lay that isn't done changed words")
				}
			}
		}
	}
}

// P10.4: an expect far below -1 takes whatever the field has.
func TestExpectFarBelow(t *testing.T) {
	for _, expect := range []int{-2, -3, -64, -1 << 32, math.MinInt} {
		k := newBench(t, config(3))
		k.chain(k.body(0, 0), []int{1}, []uint64{1}, 0)
		l := field.NewLay(k.c, 0, 0, 2, expect, 0, k.b)
		k.steps(l, []api.Touch{load(k.body(0, 0), 2), load(k.body(1, 1), 1), store(k.body(2, 2), 0, 2), swap(k.body(0, 0), 2, 3),
			load(k.body(2, 1), 0), load(plan.Clock, 1), swap(k.body(2, 1), 0, 1)})
		isLay(t, l, true, 6)
	}
}
