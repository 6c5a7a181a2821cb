package client_test

import (
	"testing"

	"withy/api"
	"withy/arena"
	"withy/collect"
	"withy/field"
	"withy/plan"
)

// rest has a collector go on, for two cycles and a rest at least, up to a fence.
func (k *bench) rest(gc *collect.Collect) {
	k.t.Helper()
	for e := gc.E; gc.E < e+9 || gc.E%4 != 1; {
		k.step(gc, 1)
	}
}

// The document's examples 1 to 4: a node that names itself, by two handles, and once it is let go.
func TestExampleOfANode(t *testing.T) {
	k := newBench(t, config(3, 1, 2, 2))
	gc := collect.NewCollect(k.c)
	h := k.gets(0, makes(1), 0)
	k.is(0, load(h, 0), ok)
	k.is(0, link(h, 0, h), ok)
	again := k.gets(0, load(h, 0), 0)
	k.atOnce(0, compare(h, again), yes)
	k.atOnce(1, load(h, 0), only(api.ErrHandle))
	k.is(0, release(h), ok)
	k.is(0, release(again), ok)
	k.rest(gc)
	same(t, "header", k.head(0), api.Header{Kind: api.Free, Gen: 1})
	same(t, "free slots", len(k.free()), 3)
}

// The document's example 5: two clients swap one field from none at the same time: one of them is answered yes, the other one no, in whatever order they take their steps.
func TestExampleOfSwaps(t *testing.T) {
	for ahead := range 30 {
		k := newBench(t, config(8, 1, 2, 2))
		h := k.gets(0, makes(1), 0)
		x := k.gets(1, makes(1), 1)
		rec := arena.NewMake(k.c, api.Record, 0, 0, []uint64{1})
		k.ends(rec)
		k.ends(field.NewLay(k.c, 1, 0, rec.Slot, -2, 0, k.b))
		other := k.gets(1, load(x, 0), 0)
		k.begins(0, swap(h, 0, h, 0))
		k.begins(1, swap(other, 0, x, 0))
		for range ahead {
			k.step(k.k[0], touchesOf(k, 0))
		}
		for k.k[0].Busy() || k.k[1].Busy() {
			for who := range 2 {
				k.step(k.k[1-who], touchesOf(k, 1-who))
			}
		}
		one, two := k.k[0].Answer(), k.k[1].Answer()
		if one == two || one != yes && two != yes || one != ok && two != ok {
			t.Errorf("%d steps ahead: %+v and %+v", ahead, one, two)
		}
		val := 1
		if one == yes {
			val = 0
		}
		k.gets(0, load(h, 0), val)
	}
}

// touchesOf is how many touches a client's next step is to have: none, if nothing is under way.
func touchesOf(k *bench, who int) int {
	if k.k[who].Busy() {
		return 1
	}
	return 0
}

// The document's example 6: what is unlinked behind an Open, and let go, is come to all the same, and lives as long as the walk.
func TestExampleOfAWalk(t *testing.T) {
	k := newBench(t, config(9, 1, 1, 3))
	gc := collect.NewCollect(k.c)
	h, x := k.gets(0, makes(1), 0), k.gets(0, makes(1), 1)
	k.is(0, link(h, 0, x), ok)
	w := k.does(0, opens(h)).H
	k.is(0, unlink(h, 0), ok)
	k.is(0, release(x), ok)
	k.is(0, release(h), ok)
	k.rest(gc)
	one := k.gets(0, next(w), 0)
	k.is(0, load(one, 0), ok)
	k.rest(gc)
	two := k.gets(0, next(w), 1)
	k.atOnce(0, next(w), only(api.ErrDone))
	k.is(0, closes(w), ok)
	k.is(0, release(one), ok)
	k.rest(gc)
	same(t, "header", k.head(0), api.Header{Kind: api.Free, Gen: 1})
	same(t, "kind", k.head(1).Kind, api.Node)
	k.is(0, release(two), ok)
	k.rest(gc)
	same(t, "free slots", len(k.free()), 9)
}

// The document's examples 7 to 9: one slot, of many generations and of one; and a client that holds as many as it may.
func TestExampleOfFull(t *testing.T) {
	c := config(1, 0, 1, 2)
	for gens := 1; gens < 4; gens++ {
		c.Gens = gens
		k := newBench(t, c)
		gc := collect.NewCollect(c)
		for range gens {
			h := k.gets(0, makes(0), 0)
			k.is(0, makes(0), only(api.ErrFull))
			k.is(0, release(h), ok)
			k.is(0, makes(0), only(api.ErrFull))
			k.rest(gc)
		}
		same(t, "kind", k.head(0).Kind, api.Dead)
		for range 3 {
			k.is(0, makes(0), only(api.ErrFull))
			k.rest(gc)
		}
	}
	k := newBench(t, config(2, 0, 1, 1))
	k.gets(0, makes(0), 0)
	k.atOnce(0, makes(0), only(api.ErrRoom))
}

// The document's example 10: with a client pinned in an epoch the collector comes to the next one, and no further, till the call is over.
func TestExampleOfAPinnedClient(t *testing.T) {
	for e := range uint64(5) {
		k := newBench(t, config(3, 1, 2, 2))
		gc := collect.NewCollect(k.c)
		for gc.E < e {
			k.step(gc, 1)
		}
		k.begins(1, makes(1))
		k.pins(1)
		for range 10 * collect.Bound(k.c) {
			k.step(gc, 1)
		}
		same(t, "epoch", gc.E, e+1)
		k.ends(k.k[1])
		k.isWord(plan.Pin(k.c, 1), 0)
		for range 10 * collect.Bound(k.c) {
			k.step(gc, 1)
		}
		if gc.E < e+20 {
			t.Errorf("the epoch is %d still", gc.E)
		}
	}
}
