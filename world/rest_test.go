package world_test

import (
	"testing"

	"withy/api"
	"withy/collect"
)

// fence is the first epoch of a fence that is at least 9 more than another one.
func fence(e uint64) uint64 {
	for e += 9; e%4 != 1; e++ {
	}
	return e
}

// P22.3: a Rest of a world in which nothing was done; and one from each epoch on.
func TestRestAlone(t *testing.T) {
	for _, c := range configs() {
		for e := range uint64(10) {
			k, one := newBench(t, c), newBench(t, c)
			for _, w := range []*bench{k, one} {
				w.epochs(e)
			}
			k.rests()
			one.epochs([]uint64{9, 13, 13, 13, 13, 17, 17, 17, 17, 21}[e])
			one.all().isAll(k)
		}
	}
}

// P22.3: twice: the second one is as long as from where the first one ended.
func TestRestTwice(t *testing.T) {
	k := newBench(t, config(4, 1, 2, 2), []api.Op{makes(1)})
	for _, want := range []uint64{9, 21, 33} {
		k.rests()
		same(t, "Epoch", k.w.Epoch(), want)
	}
	same(t, "Cycles", k.w.Cycles(), 8)
	same(t, "Done", k.w.Done(), false)
	same(t, "events", len(k.w.Events()), 0)
}

// P22.3: those with a call under way and the collector are picked by turns, the lowest first; nobody else; and no program goes on.
func TestRestByTurns(t *testing.T) {
	l := []api.Op{makes(1), load(own(0), 0), load(own(0), 0)}
	k, one := newBench(t, config(40, 1, 4, 2), l, l, l, l), newBench(t, config(40, 1, 4, 2), l, l, l, l)
	for _, w := range []*bench{k, one} {
		for who := range 4 {
			w.ends(who)
		}
		w.picks(3, 4) // pinned, and the header: then come the field, and the Leave
		w.picks(1, 3)
	}
	k.rests()
	one.w.Run([]int{1, 3, 4, 1, 3, 4, 1})
	same(t, "events", len(one.w.Events()), 6)
	one.epochs(9)
	one.all().isAll(k)
	for who := range 4 {
		same(t, "told", len(k.w.Told(who)), 1+who&1)
		same(t, "Busy", k.w.Busy(who), false)
	}
	same(t, "Done", k.w.Done(), false)
	k.ends(0)
	same(t, "the operation", k.last().Op, 1)
}

// P22.3: the second part counts from the epoch in which the collector is when the last call is over, and not from one that its next step comes to.
func TestRestFromThen(t *testing.T) {
	c := least()
	rose := 0
	for ahead := range 2 * collect.Bound(c) {
		for behind := range 6 {
			k, one := newBench(t, c, []api.Op{makes(0)}), newBench(t, c, []api.Op{makes(0)})
			for _, w := range []*bench{k, one} {
				w.picks(1, ahead)
				w.picks(0, 12) // the Leave alone is left
				w.picks(1, behind)
			}
			one.pick(0)
			same(t, "Busy", one.w.Busy(0), false)
			then := one.w.Epoch()
			one.pick(1)
			if one.w.Epoch() > then {
				rose++
			}
			one.epochs(fence(then))
			k.rests()
			one.all().isAll(k)
		}
	}
	if rose == 0 {
		t.Error("the epoch never rose with the first pick of the second part")
	}
}

// P22.3: the second part takes 4 times Bound at most, wherever the collector is.
func TestRestEndsInTime(t *testing.T) {
	seed := uint64(5)
	for n := range 120 {
		c := append(configs(), config(20, 2, 3, 4))[n%16]
		k := newBench(t, c, programs(&seed, c, 20)...)
		for range draw(&seed, 2000) {
			k.w.Pick(draw(&seed, c.Clients+1))
		}
		for busy := true; busy; {
			busy = false
			for who := range c.Clients {
				if k.w.Busy(who) {
					k.w.Pick(who)
					k.w.Pick(c.Clients)
					busy = true
				}
			}
		}
		then, now := k.w.Epoch(), k.w.Now()
		k.rests()
		same(t, "Epoch", k.w.Epoch(), fence(then))
		if steps := k.w.Now() - now; steps > 4*collect.Bound(c) {
			t.Errorf("%+v: %d steps, and Bound is %d", c, steps, collect.Bound(c))
		}
	}
}
