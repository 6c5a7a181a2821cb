package mark_test

import (
	"testing"

	"withy/api"
	"withy/mark"
	"withy/plan"
	"withy/shade"
)

// atThrough has a Mark be at the blackening of the slot 0: a node without fields that is gray, in a memory of two slots.
func atThrough(t *testing.T) (*bench, *mark.Mark) {
	k := newBench(t, config(2, 1))
	k.node(0)
	k.grays(0)
	s := mark.NewMark(k.c, 2)
	k.begins(s)
	k.steps(s, k.entry(0, 0), k.start(0), k.looks(0))
	return k, s
}

// P13.2: a header that another one changes between the load and the swap: it is loaded again, and what was changed stays.
func TestHeaderChangesUnderTheBlackening(t *testing.T) {
	k, s := atThrough(t)
	at := plan.Header(k.c, 0)
	one := k.header(api.Header{Kind: api.Node, Mark: 1, Gray: true, Gen: 4})
	k.m.Store(at, one)
	k.step(s, false, swap(at, one, one))
	k.step(s, false, load(at, one))
	other := k.header(api.Header{Kind: api.Node, Mark: 1, Gray: true, Arity: 2, Gen: 4, Stamp: 5})
	k.m.Store(at, other)
	k.step(s, false, swap(at, other, other))
	k.word(plan.Grays, 1)
	k.step(s, false, load(at, other))
	k.step(s, false, swap(at, other, other-16))
	k.step(s, false, grow(1, 0))
	k.steps(s, k.looks(1))
	k.step(s, true, load(plan.Grays, 0))
	same(t, "header", k.head(0), k.header(api.Header{Kind: api.Node, Mark: 1, Arity: 2, Gen: 4, Stamp: 5}))
	isMark(t, s, 1, 0)
}

// P13.2: a header that is changed and changed back isn't known to have been another one.
func TestHeaderChangesBack(t *testing.T) {
	k, s := atThrough(t)
	was := k.head(0)
	k.m.Store(plan.Header(k.c, 0), 0)
	k.m.Store(plan.Header(k.c, 0), was)
	k.blackens(s, 0)
	k.steps(s, k.looks(1))
	k.step(s, true, load(plan.Grays, 0))
}

// P13.2: a header that another one has be gray no more is swapped for itself (chapter 4 says that a word that can't be blackened is its own blackened one), and the gray slot that was counted is counted no more.
func TestHeaderIsGrayNoMore(t *testing.T) {
	for _, h := range []api.Header{{Kind: api.Node, Mark: 1}, {Kind: api.Limbo}, {}} {
		k, s := atThrough(t)
		at := plan.Header(k.c, 0)
		w := k.header(h)
		k.m.Store(at, w)
		k.step(s, false, swap(at, w, w))
		k.step(s, false, load(at, w))
		k.step(s, false, swap(at, w, w))
		k.step(s, false, grow(1, 0))
		k.steps(s, k.looks(1))
		k.step(s, true, load(plan.Grays, 0))
		same(t, "header", k.head(0), w)
	}
}

// P13.2: what a slot is, is what its header said when it was loaded; its words are as they are when they are loaded.
func TestChangesWhileGoneThrough(t *testing.T) {
	k := newBench(t, config(4, 4))
	k.node(0, none, 1)
	for slot := 1; slot < 4; slot++ {
		k.node(slot)
	}
	k.grays(0)
	s := mark.NewMark(k.c, 2)
	k.begins(s)
	k.steps(s, k.entry(0, 0), k.start(0), k.looks(0), k.loads(0, 0))
	k.m.Store(plan.Body(k.c, 0, 0), 2) // too late
	k.m.Store(plan.Body(k.c, 0, 1), 3)
	k.heads(0, api.Header{Kind: api.Record, Mark: 1, Gray: true})
	k.steps(s, k.loads(0, 1))
	k.shades(s, 2)
	k.steps(s, k.swaps(0), k.looks(0))
	k.blackens(s, 0)
	k.ends(s)
	k.isMarked(2, 0, 2)
}

// P13.1: another one that shades the slot which the Mark finds: one of the two has it grow gray. It waits only if it was the Mark.
func TestAnotherOneShadesIt(t *testing.T) {
	for _, others := range []bool{false, true} {
		k := newBench(t, config(3, 3))
		k.node(0)
		k.node(2)
		k.holds(0, 0, 2)
		k.m.Store(plan.Start(k.c, 0), 1)
		s, o := mark.NewMark(k.c, 2), shade.NewShade(k.c, 2, 2)
		k.begins(s)
		k.steps(s, k.entry(0, 0), k.looks(2), k.counts())
		k.steps(o, k.looks(2), k.counts())
		k.word(plan.Grays, 2)
		if others {
			k.step(o, true, swap(plan.Header(k.c, 2), 1, 1+8+16))
			k.step(s, false, swap(plan.Header(k.c, 2), 1+8+16, 1+8+16))
			k.step(s, false, grow(2, 1))
			k.step(s, false, load(plan.Header(k.c, 2), 1+8+16))
		} else {
			k.step(s, false, swap(plan.Header(k.c, 2), 1, 1+8+16))
			k.ends(o)
		}
		same(t, "the other one had it grow gray", o.Grew, others)
		k.word(plan.Grays, 1)
		k.steps(s, k.start(0))
		k.shades(s, 0)
		k.steps(s, k.looks(0))
		k.blackens(s, 0)
		k.steps(s, k.looks(0)) // which waits last
		if !others {
			k.steps(s, k.looks(2))
			k.blackens(s, 2)
		}
		k.steps(s, k.looks(1), k.looks(2))
		if others {
			k.blackens(s, 2)
		}
		k.step(s, true, load(plan.Grays, 0))
		isMark(t, s, 1, 0)
	}
}

// P13.1: a slot behind the pass that another one shades is gone through by another pass.
func TestShadedBehindThePass(t *testing.T) {
	k := newBench(t, config(3, 3))
	k.node(0, 2)
	k.node(2)
	s := mark.NewMark(k.c, 2)
	k.begins(s)
	k.steps(s, k.entry(0, 0), k.start(0), k.looks(0), k.looks(1), k.looks(2))
	k.ends(shade.NewShade(k.c, 0, 2))
	k.step(s, false, load(plan.Grays, 1))
	k.steps(s, k.looks(0), k.loads(0, 0))
	k.shades(s, 2)
	k.blackens(s, 0)
	k.steps(s, k.looks(2))
	k.blackens(s, 2)
	k.steps(s, k.looks(1), k.looks(2))
	k.step(s, true, load(plan.Grays, 0))
	isMark(t, s, 2, 0)
	k.isMarked(2, 0, 2)
}

// P13.1: a slot ahead of the pass that another one shades is gone through by it.
func TestShadedAheadOfThePass(t *testing.T) {
	k := newBench(t, config(3, 3))
	k.node(1, 0)
	k.node(0)
	s := mark.NewMark(k.c, 2)
	k.begins(s)
	k.steps(s, k.entry(0, 0), k.start(0), k.looks(0))
	k.ends(shade.NewShade(k.c, 1, 2))
	k.steps(s, k.looks(1), k.loads(1, 0))
	k.shades(s, 0)
	k.blackens(s, 1)
	k.steps(s, k.looks(0))
	k.blackens(s, 0)
	k.steps(s, k.looks(2))
	k.step(s, true, load(plan.Grays, 0))
	isMark(t, s, 1, 0)
}

// P13.1: as long as another one is about to shade something, and has counted it, there is another pass, though nothing is gray.
func TestAnotherOneIsAboutTo(t *testing.T) {
	k := newBench(t, config(2, 2))
	k.node(0)
	o := shade.NewShade(k.c, 0, 2)
	k.steps(o, k.looks(0), k.counts())
	s := mark.NewMark(k.c, 2)
	k.begins(s)
	k.steps(s, k.entry(0, 0), k.start(0))
	for range 5 {
		k.steps(s, k.looks(0), k.looks(1), k.asks())
	}
	isMark(t, s, 5, 0)
	k.ends(o)
	k.steps(s, k.looks(0))
	k.blackens(s, 0)
	k.steps(s, k.looks(1))
	k.step(s, true, load(plan.Grays, 0))
	isMark(t, s, 6, 0)
}

// P13.1: a slot that waits and isn't gray any more, or is no node or record any more, is passed over.
func TestWaitingInVain(t *testing.T) {
	for _, h := range []api.Header{{Kind: api.Node, Mark: 1, Arity: 1}, {Kind: api.Limbo, Mark: 1, Gray: true}, {}} {
		k := newBench(t, config(3, 3))
		k.node(0)
		k.node(1, 2)
		k.node(2)
		k.holds(0, 0, 0)
		k.m.Store(plan.Start(k.c, 0), 2)
		s := mark.NewMark(k.c, 2)
		k.begins(s)
		k.steps(s, k.entry(0, 0))
		k.shades(s, 0)
		k.steps(s, k.start(0))
		k.shades(s, 1)
		k.heads(1, h)
		k.m.Store(plan.Grays, 1)
		k.steps(s, k.looks(0))
		k.blackens(s, 0)
		k.steps(s, k.looks(1), k.looks(0), k.looks(1), k.looks(2))
		k.step(s, true, load(plan.Grays, 0))
		isMark(t, s, 1, 0)
	}
}

// P13.1: what is held is what the entries and the starts say when they are loaded.
func TestRootsWhenLoaded(t *testing.T) {
	k := newBench(t, api.Config{Slots: 4, Clients: 1, Handles: 2, Gens: 9})
	for slot := range 4 {
		k.node(slot)
	}
	k.holds(0, 0, 0)
	s := mark.NewMark(k.c, 2)
	k.begins(s)
	k.steps(s, k.entry(0, 0))
	k.holds(0, 0, 1) // too late
	k.holds(0, 1, 2)
	k.shades(s, 0)
	k.steps(s, k.entry(0, 1))
	k.shades(s, 2)
	k.steps(s, k.start(0))
	k.m.Store(plan.Start(k.c, 0), 4) // too late
	k.ends(s)
	k.isMarked(2, 0, 2)
}

// P13.2: an older record that is laid, or goes, between the loads of the record's words.
func TestOlderWhenLoaded(t *testing.T) {
	for _, next := range []int{none, 1} {
		k := newBench(t, config(3, 0))
		k.record(0, none, 1, 2)
		k.record(1, none, 1, none)
		k.record(2, none, 1, none)
		k.grays(0)
		s := mark.NewMark(k.c, 2)
		k.begins(s)
		k.steps(s, k.entry(0, 0), k.start(0), k.looks(0), k.loads(0, value), k.loads(0, stamp))
		k.m.Store(plan.Body(k.c, 0, older), uint64(next+1))
		k.m.Store(plan.Body(k.c, 0, stamp), 9) // too late
		k.steps(s, k.loads(0, older))
		if next == none {
			k.blackens(s, 0)
			k.ends(s)
			isMark(t, s, 1, 0)
			k.isMarked(2, 0)
			continue
		}
		k.shades(s, 1)
		k.steps(s, k.cuts(0))
		k.ends(s)
		isMark(t, s, 1, 1)
		k.isMarked(2, 0, 1)
	}
}

// P2.4: to make a machine is no touch, and it works by what the memory is when its steps come; two of them have nothing in common.
func TestMadeAhead(t *testing.T) {
	c := config(4, 2)
	first, second := mark.NewMark(c, 2), mark.NewMark(c, 2)
	for _, s := range []*mark.Mark{first, second} {
		k := newBench(t, c)
		k.chain()
		before := k.m.Touches()
		same(t, "touches", k.ends(s), k.m.Touches()-before)
		isMark(t, s, 1, 0)
		k.isMarked(2, 0, 1, 2, 3)
	}
}
