package mark_test

import (
	"math"
	"slices"
	"testing"

	"withy/api"
	"withy/head"
	"withy/mark"
	"withy/plan"
	"withy/shade"
)

// P13.1, P13.2, P13.3: the document's example, touch by touch: a node that is held, whose field names a record with a value; and another node.
func TestExample(t *testing.T) {
	k := newBench(t, api.Config{Slots: 4, Arity: 1, Clients: 1, Handles: 1, Gens: 9, Stack: 2})
	k.node(0, 1)
	k.record(1, 2, 0, none)
	k.node(2)
	k.node(3)
	k.holds(0, 0, 0)
	words := k.m.Words()
	if got := mark.Found(k.c, words, 2); !slices.Equal(got, []bool{true, true, true, false}) {
		t.Fatalf("Found: %v", got)
	}
	const node, named, record, gray, black = 1 + 1<<5, 1, 2, 8 + 16, 8
	s := mark.NewMark(k.c, 2)
	isMark(t, s, 0, 0)
	k.step(s, false, load(plan.Clock, 1))
	k.step(s, false, load(plan.View(k.c, 0), 0))
	k.step(s, false, load(plan.Entry(k.c, 0, 0), 7<<32+1))
	k.step(s, false, load(plan.Header(k.c, 0), node))
	k.step(s, false, grow(0, 1))
	k.step(s, false, swap(plan.Header(k.c, 0), node, node+gray))
	k.step(s, false, load(plan.Start(k.c, 0), 0))
	k.step(s, false, load(plan.Header(k.c, 0), node+gray))
	k.step(s, false, load(plan.Body(k.c, 0, 0), 2))
	k.step(s, false, load(plan.Header(k.c, 1), record))
	k.step(s, false, grow(1, 2))
	k.step(s, false, swap(plan.Header(k.c, 1), record, record+gray))
	k.step(s, false, swap(plan.Header(k.c, 0), node+gray, node+black))
	k.step(s, false, grow(2, 1))
	k.step(s, false, load(plan.Header(k.c, 1), record+gray))
	k.step(s, false, load(plan.Body(k.c, 1, value), 3))
	k.step(s, false, load(plan.Header(k.c, 2), named))
	k.step(s, false, grow(1, 2))
	k.step(s, false, swap(plan.Header(k.c, 2), named, named+gray))
	k.step(s, false, load(plan.Body(k.c, 1, stamp), 0))
	k.step(s, false, load(plan.Body(k.c, 1, older), 0))
	k.step(s, false, swap(plan.Header(k.c, 1), record+gray, record+black))
	k.step(s, false, grow(2, 1))
	k.step(s, false, load(plan.Header(k.c, 2), named+gray))
	k.step(s, false, swap(plan.Header(k.c, 2), named+gray, named+black))
	k.step(s, false, grow(1, 0))
	k.step(s, false, load(plan.Header(k.c, 0), node+black)) // it waited, too
	k.step(s, false, load(plan.Header(k.c, 1), record+black))
	k.step(s, false, load(plan.Header(k.c, 2), named+black))
	k.step(s, false, load(plan.Header(k.c, 3), named))
	isMark(t, s, 0, 0)
	k.step(s, true, load(plan.Grays, 0))
	isMark(t, s, 1, 0)
	k.over(s)
	isMark(t, s, 1, 0)
	k.isMarked(2, 0, 1, 2)
}

// P13.1: the clock, the views, each client's entries, and then the starts; the slots that these name are found on the spot.
func TestRootsInOrder(t *testing.T) {
	k := newBench(t, api.Config{Slots: 8, Arity: 1, Clients: 3, Handles: 2, Gens: 9})
	for slot := range 8 {
		k.node(slot)
	}
	k.holds(0, 1, 5)
	k.holds(1, 0, 4)
	k.holds(1, 1, 5)
	k.holds(2, 1, 7)
	k.m.Store(plan.Start(k.c, 0), 1)
	k.m.Store(plan.Start(k.c, 2), 6)
	s := mark.NewMark(k.c, 2)
	k.steps(s, k.clock(), k.view(0), k.view(1), k.view(2))
	k.steps(s, k.entry(0, 0), k.entry(0, 1))
	k.shades(s, 5)
	k.steps(s, k.entry(1, 0))
	k.shades(s, 4)
	k.steps(s, k.entry(1, 1), k.looks(5), k.entry(2, 0), k.entry(2, 1))
	k.shades(s, 7)
	k.steps(s, k.start(0))
	k.shades(s, 0)
	k.steps(s, k.start(1), k.start(2), k.looks(5))
	k.steps(s, k.looks(0))
	k.ends(s)
	k.isMarked(2, 0, 4, 5, 7)
	isMark(t, s, 1, 0)
}

// P13.1: a pass goes slot by slot; what waits comes behind the first one that is gone through, the last one first, and what was gone through meanwhile is passed over.
func TestWhatWaitsComesLastFirst(t *testing.T) {
	k := newBench(t, api.Config{Slots: 6, Arity: 3, Clients: 1, Handles: 3, Gens: 9, Stack: 6})
	k.heads(0, api.Header{Kind: api.Free})
	k.node(1, 5, 2)
	k.node(2)
	k.node(3)
	k.node(4)
	k.node(5, 4)
	k.holds(0, 0, 3)
	k.holds(0, 1, 1)
	s := mark.NewMark(k.c, 2)
	k.begins(s)
	k.steps(s, k.entry(0, 0))
	k.shades(s, 3)
	k.steps(s, k.entry(0, 1))
	k.shades(s, 1)
	k.steps(s, k.entry(0, 2), k.start(0))
	k.steps(s, k.looks(0)) // which isn't gray: 3 and 1 wait on
	k.steps(s, k.looks(1), k.loads(1, 0))
	k.shades(s, 5)
	k.steps(s, k.loads(1, 1))
	k.shades(s, 2)
	k.blackens(s, 1)
	k.steps(s, k.looks(2)) // 3, 1, 5 and 2 wait
	k.blackens(s, 2)
	k.steps(s, k.looks(5), k.loads(5, 0))
	k.shades(s, 4)
	k.blackens(s, 5)
	k.steps(s, k.looks(4))
	k.blackens(s, 4)
	k.steps(s, k.looks(1), k.looks(3))
	k.blackens(s, 3)
	k.steps(s, k.looks(2), k.looks(3), k.looks(4), k.looks(5))
	k.step(s, true, load(plan.Grays, 0))
	isMark(t, s, 1, 0)
}

// chain has the slots be nodes, of which each names the next one, from the last slot down to the first; the last one is held.
func (k *bench) chain() {
	k.node(0)
	for slot := 1; slot < k.c.Slots; slot++ {
		k.node(slot, slot-1)
	}
	k.holds(0, 0, k.c.Slots-1)
}

// P13.1: with nothing that can wait each pass goes through one slot of a chain that leads back. With one, which the one that is held is till it was gone through, the next one is left to a second pass; with more it is all one pass.
func TestPasses(t *testing.T) {
	for slots := 1; slots <= 9; slots++ {
		for _, stack := range []int{0, 1, 2, slots, 64} {
			k := newBench(t, config(slots, stack))
			k.chain()
			s := k.marks(2)
			want := 1
			switch stack {
			case 0:
				want = slots
			case 1:
				want = min(slots, 2)
			}
			isMark(t, s, want, 0)
			same(t, "marked", len(k.marked(2)), slots)
		}
	}
}

// P13.1: the passes are counted one by one, each when its grays are loaded.
func TestPassesAreCounted(t *testing.T) {
	k := newBench(t, config(3, 0))
	k.chain()
	s := mark.NewMark(k.c, 2)
	k.begins(s)
	k.steps(s, k.entry(0, 0))
	k.shades(s, 2)
	k.steps(s, k.start(0))
	k.steps(s, k.looks(0), k.looks(1), k.looks(2), k.loads(2, 0))
	k.shades(s, 1)
	k.blackens(s, 2)
	isMark(t, s, 0, 0)
	k.step(s, false, load(plan.Grays, 1))
	isMark(t, s, 1, 0)
	k.steps(s, k.looks(0), k.looks(1), k.loads(1, 0))
	k.shades(s, 0)
	k.blackens(s, 1)
	k.steps(s, k.looks(2))
	isMark(t, s, 1, 0)
	k.step(s, false, load(plan.Grays, 1))
	isMark(t, s, 2, 0)
	k.steps(s, k.looks(0))
	k.blackens(s, 0)
	k.steps(s, k.looks(1), k.looks(2))
	k.step(s, true, load(plan.Grays, 0))
	isMark(t, s, 3, 0)
}

// P13.1: one can wait: the first that is found does, the others can't, and are come to by the pass, or by another one. A slot that was come to waits no more, so that there is room for another one.
func TestSomeCannotWait(t *testing.T) {
	k := newBench(t, api.Config{Slots: 6, Arity: 3, Clients: 1, Handles: 1, Gens: 9, Stack: 1})
	k.node(3, 1, 0, 5)
	k.node(1, 2)
	k.node(0)
	k.node(2)
	k.node(5)
	k.m.Store(plan.Start(k.c, 0), 4)
	s := mark.NewMark(k.c, 2)
	k.begins(s)
	k.steps(s, k.entry(0, 0), k.start(0))
	k.shades(s, 3) // waits
	k.steps(s, k.looks(0), k.looks(1), k.looks(2), k.looks(3))
	k.steps(s, k.loads(3, 0))
	k.shades(s, 1) // can't wait, as 3 does
	k.steps(s, k.loads(3, 1))
	k.shades(s, 0)
	k.steps(s, k.loads(3, 2))
	k.shades(s, 5)
	k.blackens(s, 3)
	k.steps(s, k.looks(3)) // waits no more
	k.steps(s, k.looks(4), k.looks(5))
	k.blackens(s, 5)
	k.step(s, false, load(plan.Grays, 2))
	k.steps(s, k.looks(0))
	k.blackens(s, 0)
	k.steps(s, k.looks(1), k.loads(1, 0))
	k.shades(s, 2) // waits
	k.blackens(s, 1)
	k.steps(s, k.looks(2))
	k.blackens(s, 2)
	k.steps(s, k.looks(2), k.looks(3), k.looks(4), k.looks(5))
	k.step(s, true, load(plan.Grays, 0))
	isMark(t, s, 2, 0)
}

// P13.1: just Stack slots wait, however many are found.
func TestJustStackWait(t *testing.T) {
	for stack := range 10 {
		k := newBench(t, api.Config{Slots: 8, Arity: 1, Clients: 1, Handles: 8, Gens: 9, Stack: stack})
		for slot := range 8 {
			k.node(slot)
			k.holds(0, slot, slot)
		}
		s := mark.NewMark(k.c, 2)
		for range 1 + 1 + 4*8 + 1 {
			same(t, "Step", s.Step(k.m), false)
		}
		k.steps(s, k.looks(0))
		k.blackens(s, 0)
		for slot := min(stack, 8) - 1; slot > 0; slot-- {
			k.steps(s, k.looks(slot))
			k.blackens(s, slot)
		}
		if stack > 0 {
			k.steps(s, k.looks(0))
		}
		k.steps(s, k.looks(1))
		k.ends(s)
		isMark(t, s, 1, 0)
	}
}

// P13.1: slots that are gray when a Mark begins are gone through, though nothing names them.
func TestGrayAtFirst(t *testing.T) {
	for _, stack := range []int{0, 1, 9} {
		k := newBench(t, config(6, stack))
		k.node(0)
		k.node(1, 4)
		k.record(2, 3, 0, 5)
		k.node(3)
		k.node(4)
		k.record(5, none, 0, none)
		k.grays(2, 1)
		want := mark.Found(k.c, k.m.Words(), 2)
		if !slices.Equal(want, []bool{false, true, true, true, true, true}) {
			t.Fatalf("Found: %v", want)
		}
		s := k.marks(2)
		k.isMarked(2, 1, 2, 3, 4, 5)
		isMark(t, s, 1, 0)
		same(t, "gray slots", shade.Grays(k.c, k.m.Words()), 0)
		k.word(plan.Grays, 0)
	}
}

// P13.1, P13.3: what is marked already, and isn't gray, isn't gone through, though it is held; nor is what is neither a node nor a record.
func TestMarkedAlready(t *testing.T) {
	for _, stack := range []int{0, 9} {
		for _, h := range []api.Header{{Kind: api.Node, Mark: 1, Arity: 1}, {Kind: api.Record, Mark: 1}, {Kind: api.Free}, {Kind: api.Limbo, Arity: 1}, {Kind: api.Dead, Arity: 1}} {
			k := newBench(t, config(3, stack))
			k.node(0)
			k.node(2)
			k.heads(1, h)
			for i := range 3 {
				k.m.Store(plan.Body(k.c, 1, i), 3)
			}
			k.holds(0, 0, 1)
			before := k.m.Words()
			s := mark.NewMark(k.c, 2)
			k.begins(s)
			k.steps(s, k.entry(0, 0), k.looks(1), k.start(0), k.looks(0), k.looks(1), k.looks(2))
			k.step(s, true, load(plan.Grays, 0))
			isMark(t, s, 1, 0)
			same(t, "words as they were", slices.Equal(before, k.m.Words()), true)
			if got := mark.Found(k.c, before, 2); got[2] || got[0] || got[1] != (h.Mark == 1) {
				t.Fatalf("%+v: Found: %v", h, got)
			}
		}
	}
}

// P13.2, P13.3: a gray one that is neither a node nor a record isn't gone through, and stays gray: the Mark ends only if the grays don't count it.
func TestGrayOthers(t *testing.T) {
	for _, kind := range []int{api.Free, api.Limbo, api.Dead} {
		for _, bit := range []int{0, 1} {
			k := newBench(t, config(2, 4))
			k.node(0)
			k.heads(1, api.Header{Kind: kind, Mark: bit, Gray: true, Arity: 2})
			for i := range 3 {
				k.m.Store(plan.Body(k.c, 1, i), 1)
			}
			before := k.m.Words()
			if got := mark.Found(k.c, before, 2); !slices.Equal(got, []bool{false, false}) {
				t.Fatalf("Found: %v", got)
			}
			s := mark.NewMark(k.c, 2)
			k.begins(s)
			k.steps(s, k.entry(0, 0), k.start(0), k.looks(0), k.looks(1))
			k.m.Store(plan.Grays, 1)
			k.step(s, false, load(plan.Grays, 1))
			k.steps(s, k.looks(0), k.looks(1))
			k.m.Store(plan.Grays, 0)
			k.step(s, true, load(plan.Grays, 0))
			isMark(t, s, 2, 0)
			same(t, "words as they were", slices.Equal(before, k.m.Words()), true)
		}
	}
}

// P13.2, P13.3: a gray one that isn't marked is gone through, and is marked only if it is found.
func TestGrayAndNotMarked(t *testing.T) {
	k := newBench(t, config(3, 4))
	k.node(0, 1)
	k.node(1)
	k.heads(0, api.Header{Kind: api.Node, Gray: true, Arity: 1})
	k.m.Store(plan.Grays, 1)
	if got := mark.Found(k.c, k.m.Words(), 2); !slices.Equal(got, []bool{false, true, false}) {
		t.Fatalf("Found: %v", got)
	}
	k.marks(2)
	k.isMarked(2, 1)
	same(t, "header", k.head(0), 1+1<<5)
	k.holds(0, 0, 0)
	k.heads(0, api.Header{Kind: api.Node, Gray: true, Arity: 1})
	if got := mark.Found(k.c, k.m.Words(), 2); !slices.Equal(got, []bool{true, true, false}) {
		t.Fatalf("Found of one that is held: %v", got)
	}
}

// P13.2: what a record has comes in this order: its value, its stamp, its older one, and, if that is cut off, that again.
func TestThroughARecord(t *testing.T) {
	for _, cut := range []bool{false, true} {
		k := newBench(t, config(4, 1))
		k.record(1, 3, 5, 2)
		k.record(2, none, 4, none)
		k.node(3)
		k.grays(1)
		k.m.Store(plan.Clock, 4)
		if cut {
			k.m.Store(plan.Clock, 5)
		}
		s := mark.NewMark(k.c, 2)
		k.begins(s)
		k.steps(s, k.entry(0, 0), k.start(0), k.looks(0), k.looks(1))
		k.steps(s, k.loads(1, value))
		k.shades(s, 3)
		k.steps(s, k.loads(1, stamp), k.loads(1, older))
		k.shades(s, 2)
		isMark(t, s, 0, 0)
		if cut {
			k.step(s, false, store(plan.Body(k.c, 1, older), 3, 0))
			isMark(t, s, 0, 1)
		}
		k.blackens(s, 1)
		k.steps(s, k.looks(3))
		k.ends(s)
		k.isMarked(2, 1, 2, 3)
	}
}

// P13.2: a record whose value, older one or both are marked already, or none, has them looked at, and no more.
func TestThroughARecordOfMarked(t *testing.T) {
	k := newBench(t, config(4, 1))
	k.record(1, 1, 0, 1)
	k.grays(1)
	s := mark.NewMark(k.c, 2)
	k.begins(s)
	k.steps(s, k.entry(0, 0), k.start(0), k.looks(0), k.looks(1))
	k.steps(s, k.loads(1, value), k.looks(1), k.loads(1, stamp), k.loads(1, older), k.looks(1))
	k.blackens(s, 1)
	k.steps(s, k.looks(2), k.looks(3))
	k.step(s, true, load(plan.Grays, 0))
	isMark(t, s, 1, 0)
}

// P13.2: a node of each arity: as many fields as it says are gone through, in order; what stands behind them isn't looked at, and what lies beyond the body isn't there.
func TestArities(t *testing.T) {
	for _, c := range configs() {
		for arity := range 16 {
			k := newBench(t, c)
			k.heads(0, api.Header{Kind: api.Node, Mark: 1, Gray: true, Arity: arity})
			k.m.Store(plan.Grays, 1)
			for i := range bodySize(c) {
				k.m.Store(plan.Body(c, 0, i), 1)
			}
			s := mark.NewMark(c, 2)
			for range 1 + 2*c.Clients + c.Clients*c.Handles {
				s.Step(k.m)
			}
			k.steps(s, k.looks(0))
			for i := range min(arity, bodySize(c)) {
				k.steps(s, k.loads(0, i), k.looks(0))
			}
			k.blackens(s, 0)
			k.ends(s)
			isMark(t, s, 1, 0)
		}
	}
}

// P13.2: whether a record is cut off hangs on its stamp and the least view: the clock, the views of walks below it, or 0, if a walk is about to be. A record without a stamp is never cut off, nor one without an older one.
func TestLeastView(t *testing.T) {
	for _, k := range []struct {
		clock uint64
		views []uint64
		least uint64
	}{
		{1, nil, 1},
		{0, nil, 0},
		{7, nil, 7},
		{7, []uint64{0, 0, 0}, 7},
		{7, []uint64{0, 1, 0}, 0},
		{7, []uint64{1}, 0},
		{7, []uint64{0, 0, 1}, 0},
		{7, []uint64{1, 5, 9}, 0},
		{7, []uint64{5, 1, 9}, 0},
		{7, []uint64{2}, 0},
		{7, []uint64{3}, 1},
		{7, []uint64{0, 8, 0}, 6},
		{7, []uint64{0, 0, 9}, 7},
		{7, []uint64{10, 11, 99}, 7},
		{7, []uint64{5, 6, 7}, 3},
		{7, []uint64{7, 6, 5}, 3},
		{7, []uint64{6, 5, 7}, 3},
		{1 << 40, []uint64{1<<33 + 2, 0, 1<<34 + 2}, 1 << 33},
		{math.MaxUint64, nil, math.MaxUint64},
		{math.MaxUint64, []uint64{math.MaxUint64}, math.MaxUint64 - 2},
		{5, []uint64{math.MaxUint64, 1<<63 + 2}, 5},
	} {
		for _, stamped := range []uint64{0, 1, 2, 3, k.least - 1, k.least, k.least + 1, math.MaxUint64} {
			for _, next := range []int{1, 0, none, 3, 99} {
				b := newBench(t, api.Config{Slots: 3, Clients: 3, Handles: 1, Gens: 9, Stack: 3})
				b.m.Store(plan.Clock, k.clock)
				for who, w := range k.views {
					b.m.Store(plan.View(b.c, who), w)
				}
				b.record(0, none, stamped, next)
				b.record(1, none, 1, none)
				b.holds(2, 0, 0)
				s := b.marks(2)
				isThere := next == 0 || next == 1
				cut := isThere && stamped != 0 && stamped <= k.least
				cuts, want := 0, uint64(next+1)
				if cut {
					cuts, want = 1, 0
				}
				same(t, "Cuts", s.Cuts, cuts)
				b.word(plan.Body(b.c, 0, older), want)
				same(t, "the older one is marked", head.Marked(b.head(1), 2), next == 1)
			}
		}
	}
}

// P13.1: the least view is of the clock and the view words as they are loaded first; what they become then changes nothing.
func TestLeastViewWhenLoaded(t *testing.T) {
	for _, k := range []struct {
		ahead  int // of so many steps
		at     func(c api.Config) int
		was, w uint64
		cuts   int
	}{
		{0, func(c api.Config) int { return plan.Clock }, 9, 4, 0},
		{1, func(c api.Config) int { return plan.Clock }, 9, 4, 1},
		{1, func(c api.Config) int { return plan.Clock }, 4, 9, 0},
		{1, func(c api.Config) int { return plan.View(c, 0) }, 0, 1, 0},
		{2, func(c api.Config) int { return plan.View(c, 0) }, 0, 1, 1},
		{2, func(c api.Config) int { return plan.View(c, 0) }, 1, 0, 0},
		{2, func(c api.Config) int { return plan.View(c, 1) }, 0, 6, 0},
		{3, func(c api.Config) int { return plan.View(c, 1) }, 0, 6, 1},
		{3, func(c api.Config) int { return plan.View(c, 1) }, 6, 0, 0},
		{9, func(c api.Config) int { return plan.View(c, 1) }, 6, 7, 0},
	} {
		b := newBench(t, api.Config{Slots: 2, Clients: 2, Handles: 1, Gens: 9})
		b.m.Store(plan.Clock, 9)
		b.record(0, none, 5, 1)
		b.record(1, none, 3, none)
		b.holds(0, 0, 0)
		b.m.Store(k.at(b.c), k.was)
		s := mark.NewMark(b.c, 2)
		for range k.ahead {
			same(t, "Step", s.Step(b.m), false)
		}
		b.m.Store(k.at(b.c), k.w)
		b.ends(s)
		same(t, "Cuts", s.Cuts, k.cuts)
	}
}

// P13.2, P13.3: of a row of records each one is cut off that has a stamp of at most the least view; all of them are marked in this cycle, and those behind the first cut in none that follows.
func TestRowOfRecords(t *testing.T) {
	for _, stack := range []int{0, 1, 8} {
		k := newBench(t, config(7, stack))
		k.node(0, 1)
		for slot := 1; slot < 7; slot++ {
			k.record(slot, 0, uint64(20-2*slot), slot+1)
		}
		k.m.Store(plan.Body(k.c, 6, older), 0)
		k.holds(0, 0, 0)
		k.m.Store(plan.Clock, 30)
		k.m.Store(plan.View(k.c, 0), 14+2)
		s := k.marks(2)
		same(t, "Cuts", s.Cuts, 3)
		k.isMarked(2, 0, 1, 2, 3, 4, 5, 6)
		for i, want := range []uint64{3, 4, 0, 0, 0, 0} {
			k.word(plan.Body(k.c, i+1, older), want)
		}
		if got := mark.Found(k.c, k.m.Words(), 6); !slices.Equal(got, []bool{true, true, true, true, false, false, false}) {
			t.Fatalf("Found in the next cycle: %v", got)
		}
		again := k.marks(6)
		isMark(t, again, again.Passes, 0)
		k.isMarked(6, 0, 1, 2, 3)
	}
}

// P13.1 to P13.4: graphs that go round: a node that names itself by a record, two that name each other, and records that lead round.
func TestRound(t *testing.T) {
	for _, stack := range []int{0, 1, 2, 64} {
		k := newBench(t, config(8, stack))
		k.node(7, 6, 5)
		k.record(6, 7, 0, none)
		k.record(5, 4, 2, 3)
		k.node(4, 5, 6)
		k.record(3, 7, 2, 5)
		k.node(2, 1)
		k.record(1, 2, 0, 1)
		k.m.Store(plan.Start(k.c, 0), 8)
		s := k.marks(2)
		k.isMarked(2, 3, 4, 5, 6, 7)
		same(t, "Cuts", s.Cuts, 0)
		k.word(plan.Grays, 0)
	}
}

// P13.1: the first slot and the last one, of a config with few slots and of the one with the most.
func TestFirstAndLastSlot(t *testing.T) {
	for _, c := range []api.Config{config(1, 0), config(2, 2), greatest()} {
		k := newBench(t, c)
		last := c.Slots - 1
		k.node(0, last)
		if last > 0 {
			k.record(last, 0, 1, 0)
		}
		k.holds(c.Clients-1, c.Handles-1, last)
		s := k.marks(2)
		same(t, "the first one is marked", head.Marked(k.head(0), 2), true)
		same(t, "the last one is marked", head.Marked(k.head(last), 2), true)
		isMark(t, s, 1, min(last, 1))
	}
}

// P13.1, P13.2: words that name no slot of the config: nothing is found by them, and no step is done for them.
func TestStrangers(t *testing.T) {
	for _, c := range []api.Config{config(3, 2), config(3, 0)} {
		for _, w := range strangers(c) {
			k := newBench(t, c)
			k.node(0)
			k.node(1, none, none)
			k.record(2, none, 1, none)
			k.grays(1, 2)
			// An entry has a tag beside the slot, so that its low bits alone name one.
			k.m.Store(plan.Entry(c, 0, 0), 5<<32)
			if w < 1<<32 {
				k.m.Store(plan.Entry(c, 0, 0), 5<<32+w)
			}
			k.m.Store(plan.Start(c, 0), w)
			for i := range 2 {
				k.m.Store(plan.Body(c, 1, i), w)
			}
			k.m.Store(plan.Body(c, 2, value), w)
			k.m.Store(plan.Body(c, 2, older), w)
			if got := mark.Found(c, k.m.Words(), 2); !slices.Equal(got, []bool{false, true, true}) {
				t.Fatalf("%x: Found: %v", w, got)
			}
			s := mark.NewMark(c, 2)
			k.begins(s)
			k.steps(s, k.entry(0, 0), k.start(0), k.looks(0), k.looks(1), k.loads(1, 0), k.loads(1, 1))
			k.blackens(s, 1)
			k.steps(s, k.looks(2), k.loads(2, value), k.loads(2, stamp), k.loads(2, older))
			k.blackens(s, 2)
			k.step(s, true, load(plan.Grays, 0))
			isMark(t, s, 1, 0)
			k.word(plan.Body(c, 2, older), w)
		}
	}
}

// P13.1: an entry names a slot whatever its tag is.
func TestEntriesWithTags(t *testing.T) {
	for _, tag := range []uint64{0, 1, 1 << 31, 1<<32 - 1} {
		k := newBench(t, config(3, 2))
		k.node(1)
		k.m.Store(plan.Entry(k.c, 0, 0), tag<<32+2)
		same(t, "Found", mark.Found(k.c, k.m.Words(), 2)[1], true)
		k.marks(2)
		k.isMarked(2, 1)
	}
	for _, low := range []uint64{4, 5, 65, 1 << 31, 1<<32 - 1} {
		k := newBench(t, config(3, 2))
		for slot := range 3 {
			k.node(slot)
		}
		k.m.Store(plan.Entry(k.c, 0, 0), 1<<32+low)
		same(t, "Found", slices.Contains(mark.Found(k.c, k.m.Words(), 2), true), false)
		k.marks(2)
		k.isMarked(2)
	}
}

// P13.1, P13.3: which mark is the black one hangs on the epoch's cycle.
func TestEpochs(t *testing.T) {
	for _, e := range epochs() {
		k := newBench(t, config(4, 2))
		for slot := range 4 {
			k.heads(slot, api.Header{Kind: api.Node, Mark: 1 - black(e), Arity: 1})
		}
		k.heads(3, api.Header{Kind: api.Record, Mark: black(e)})
		k.m.Store(plan.Body(k.c, 0, 0), 2)
		k.holds(0, 0, 0)
		if got := mark.Found(k.c, k.m.Words(), e); !slices.Equal(got, []bool{true, true, false, true}) {
			t.Fatalf("the epoch %d: Found: %v", e, got)
		}
		k.marks(e)
		k.isMarked(e, 0, 1, 3)
		same(t, "header", k.head(1), k.header(api.Header{Kind: api.Node, Mark: black(e), Arity: 1}))
	}
}

// P13.1: all else of a header is as it was when its slot is gone through.
func TestHeadersStay(t *testing.T) {
	k := newBench(t, config(2, 2))
	h := api.Header{Kind: api.Node, Arity: 2, Gen: 1<<32 - 1, Stamp: 1<<16 - 1}
	k.heads(0, h)
	k.holds(0, 0, 0)
	k.marks(2)
	h.Mark = 1
	same(t, "header", k.head(0), k.header(h))
}
