package world_test

import (
	"slices"
	"testing"

	"withy/api"
	"withy/arena"
	"withy/lin"
	"withy/plan"
	"withy/stack"
)

// The chapter's example: one client, New, and Release of it, and a Rest: the slot is free again, of generation 1.
func TestExampleOfTheChapter(t *testing.T) {
	for _, c := range []api.Config{config(1, 0, 1, 1), config(2, 3, 2, 2), greatest()} {
		k := newBench(t, c, []api.Op{makes(0), release(own(0))})
		for !k.w.Done() {
			k.pick(0)
		}
		same(t, "Now", k.w.Now(), 10+max(c.Arity, 3)+5)
		k.rests()
		k.isFree(0, 1)
		same(t, "events", len(k.w.Events()), 2)
	}
}

// The document's examples 1 to 3: a node that names itself: the handles of it are the same node's; once they are let go, its slot is free within two cycles and a rest.
func TestExampleOfANode(t *testing.T) {
	k := newBench(t, config(3, 1, 1, 2), []api.Op{makes(1), load(own(0), 0), link(own(0), 0, own(0)), load(own(0), 0), compare(own(0), own(3)), release(own(0)), release(own(3))})
	h, again := handle(0, 0, 1), handle(0, 1, 1)
	k.answers(0, gives(h), ok, ok, gives(again), yes, ok)
	same(t, "the kind of the slot", k.head(0).Kind, api.Node)
	k.answers(0, ok)
	same(t, "the kind of the slot", k.head(0).Kind, api.Node)
	k.rests()
	k.isFree(0, 1)
	k.isFree(1, 1)
	k.isFree(2, 0)
}

// The document's example 4: a Load by another client's handle.
func TestExampleOfAnothersHandle(t *testing.T) {
	k := newBench(t, config(3, 1, 2, 2), []api.Op{makes(1)}, []api.Op{load(of(0, 0), 0)})
	k.answers(0, gives(handle(0, 0, 1)))
	k.answers(1, only(api.ErrHandle))
	same(t, "the call", k.last().Call, api.Call{Kind: api.Load, H: handle(0, 0, 1)})
}

// The document's example 5: two clients swap a field from none at the same time. No call has one client come to another one's node, so that here each has a field of its own, and both are answered yes; by a second Swap from none each is answered no.
func TestExampleOfSwaps(t *testing.T) {
	swaps := []api.Op{makes(1), swap(own(0), 0, own(0), raw(0)), swap(own(0), 0, own(0), raw(0)), swap(of(0, 0), 0, own(0), raw(0))}
	k := newBench(t, config(9, 1, 2, 2), swaps, swaps)
	for !k.w.Done() {
		k.w.Pick(0)
		k.w.Pick(1)
	}
	for _, e := range k.w.Events() {
		want := []api.Answer{gives(handle(e.Client, 0, 1)), yes, ok, ok}[e.Op]
		if e.Op == 3 && e.Client == 1 {
			want = only(api.ErrHandle)
		}
		same(t, "the answer", e.Answer, want)
	}
	same(t, "Points", lin.Points(k.c, k.w.Events()), true)
}

// The document's example 6: the walk still comes to what was linked, also once all of it is let go, and the collector went through many cycles; behind its end it says so.
func TestExampleOfAWalk(t *testing.T) {
	k := newBench(t, config(9, 1, 1, 3), []api.Op{makes(1), makes(1), link(own(0), 0, own(1)), opens(own(0)), unlink(own(0), 0), release(own(1)), release(own(0)), next(own(3)), next(own(3)), compare(own(7), own(8)), next(own(3)), closes(own(3)), release(own(7)), release(own(8))})
	walk := handle(0, 255, 1)
	k.answers(0, gives(handle(0, 0, 1)), gives(handle(0, 1, 1)), ok, gives(walk), ok, ok, ok)
	k.rests()
	k.right()
	k.answers(0, gives(handle(0, 0, 2)), gives(handle(0, 1, 2)))
	same(t, "the start", k.w.Holds(0, handle(0, 0, 2)), 0)
	same(t, "what was linked", k.w.Holds(0, handle(0, 1, 2)), 1)
	k.rests()
	k.answers(0, ok, only(api.ErrDone), ok, ok, ok)
	k.rests()
	k.isFree(0, 1)
	k.isFree(1, 1)
	same(t, "free slots", len(stack.List(k.c, k.w.Words())), 9)
}

// The document's example 7: one slot, New twice: ErrFull; behind a Release and a Rest: a handle.
func TestExampleOfOneSlot(t *testing.T) {
	k := newBench(t, api.Config{Slots: 1, Clients: 1, Handles: 2, Gens: 9}, []api.Op{makes(0), makes(0), release(own(0)), makes(0), makes(0)})
	k.answers(0, gives(handle(0, 0, 1)), only(api.ErrFull), ok, only(api.ErrFull))
	k.rests()
	k.answers(0, gives(handle(0, 0, 2)))
	same(t, "the header", k.head(0).Gen, 1)
}

// The document's example 8: Gens 1: behind a Release and a Rest the slot is dead, and New is ErrFull for ever.
func TestExampleOfOneGeneration(t *testing.T) {
	for gens := 1; gens < 4; gens++ {
		l := slices.Repeat([]api.Op{{}, {}}, 20)
		for i := range l {
			l[i] = makes(0)
			if i%2 == 1 {
				l[i] = release(own(i - 1))
			}
		}
		k := newBench(t, api.Config{Slots: 1, Clients: 1, Handles: 1, Gens: gens}, l)
		for i := range 20 {
			if i < gens {
				same(t, "the generation", k.head(0).Gen, i)
				k.answers(0, gives(handle(0, 0, uint64(i+1))), ok)
			} else {
				k.answers(0, only(api.ErrFull), only(api.ErrHandle))
				same(t, "the kind", k.head(0).Kind, api.Dead)
			}
			k.rests()
			k.right()
		}
	}
}

// The document's example 9: Handles 1, New twice: ErrRoom.
func TestExampleOfOneHandle(t *testing.T) {
	k := newBench(t, config(4, 1, 2, 1), []api.Op{makes(1), makes(1), load(own(0), 0), link(own(0), 0, own(0)), load(own(0), 0)}, []api.Op{makes(0)})
	k.answers(0, gives(handle(0, 0, 1)), only(api.ErrRoom), ok, ok, only(api.ErrRoom))
	k.answers(1, gives(handle(1, 0, 1)))
}

// The document's example 10: a client that is pinned in an epoch: the collector comes to the next one, and no further, till the client goes on.
func TestExampleOfAPin(t *testing.T) {
	for e := range uint64(6) {
		k := newBench(t, config(4, 1, 2, 1), []api.Op{makes(1)})
		k.epochs(e)
		k.picks(0, 3)
		k.picks(2, 2000)
		same(t, "Epoch", k.w.Epoch(), e+1)
		k.alone(0)
		k.picks(2, 2000)
		if k.w.Epoch() < e+8 {
			t.Errorf("Epoch %d behind the call's end", k.w.Epoch())
		}
		same(t, "the kind", k.head(0).Kind, api.Node)
		k.right()
	}
}

// P22.5: a world whose slots are all taken: ErrFull of all that makes something, and nothing is changed; what is let go comes back.
func TestAllSlotsTaken(t *testing.T) {
	k := newBench(t, config(3, 2, 1, 4), []api.Op{makes(2), makes(0), link(own(0), 0, own(1)), makes(1), link(own(0), 1, own(1)), unlink(own(0), 0), swap(own(0), 0, own(0), own(1)), swap(own(0), 0, own(0), own(0)), load(own(0), 0), release(own(1)), release(own(8)), makes(1), unlink(own(0), 0)})
	full := only(api.ErrFull)
	k.answers(0, gives(handle(0, 0, 1)), gives(handle(0, 1, 1)), ok, full, full)
	words := arena.Body(k.c, k.w.Words(), 0)
	k.answers(0, full, full, ok)
	if got := arena.Body(k.c, k.w.Words(), 0); !slices.Equal(got, words) {
		t.Errorf("the node's body: %v, want %v", got, words)
	}
	k.answers(0, gives(handle(0, 2, 1)), ok, ok)
	k.rests()
	k.right()
	k.answers(0, full, full)
	same(t, "what the node names", k.w.Words()[plan.Body(k.c, 0, 0)], 3)
	same(t, "Points", lin.Points(k.c, k.w.Events()), true)
}
