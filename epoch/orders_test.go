package epoch_test

import (
	"fmt"
	"slices"
	"testing"

	"withy/api"
	"withy/epoch"
	"withy/mem"
	"withy/plan"
)

// client pins itself and leaves, so many rounds, one machine after the other.
type client struct {
	rounds int
	pin    *epoch.Pin
	leave  *epoch.Leave
	pinned bool
	e      uint64 // in which it is pinned
}

// mover advances the epoch, so many times, one machine after the other.
type mover struct {
	times   int
	advance *epoch.Advance
	last    uint64 // what its last one told
}

// round is a memory with clients and movers, and the epoch as it was behind the last step.
type round struct {
	c       api.Config
	m       *mem.Mem
	clients []client
	movers  []mover
	e       uint64
	moves   uint64
}

// newRound is one that begins in an epoch, with a client of each number of rounds, and a mover of each number of times.
func newRound(e uint64, rounds, times []int) *round {
	c := config(len(rounds))
	r := &round{c: c, m: memory(c, e), e: e}
	for _, n := range rounds {
		r.clients = append(r.clients, client{rounds: n})
	}
	for _, n := range times {
		r.movers = append(r.movers, mover{times: n, last: e})
	}
	return r
}

// workers is how many there are: the clients are numbered first, the movers behind them.
func (r *round) workers() int {
	return len(r.clients) + len(r.movers)
}

// busy tells whether a worker has work left, and gives it its next machine.
func (r *round) busy(i int) bool {
	if i >= len(r.clients) {
		v := &r.movers[i-len(r.clients)]
		if v.advance == nil && v.times > 0 {
			v.advance = epoch.NewAdvance(r.c)
			v.times--
		}
		return v.advance != nil
	}
	k := &r.clients[i]
	if k.pin == nil && k.leave == nil && k.rounds > 0 {
		if k.pinned {
			k.leave = epoch.NewLeave(r.c, i)
			k.rounds--
		} else {
			k.pin = epoch.NewPin(r.c, i)
		}
	}
	return k.pin != nil || k.leave != nil
}

// step has a busy worker take a step, and checks all that P8.2 says of it.
func (r *round) step(t *testing.T, i int) {
	t.Helper()
	touches := r.m.Touches()
	moved := false
	if i < len(r.clients) {
		r.stepClient(t, &r.clients[i])
	} else {
		moved = r.stepMover(t, &r.movers[i-len(r.clients)])
	}
	if r.m.Touches() != touches+1 {
		t.Fatalf("%d touches in one step", r.m.Touches()-touches)
	}
	want := r.e
	if moved {
		want++
		r.moves++
	}
	r.e = r.m.Words()[plan.Epoch]
	if r.e != want {
		t.Fatalf("the epoch is %d, want %d", r.e, want)
	}
	r.checkPinned(t)
}

// stepClient: a Pin that is done tells the epoch that there is then; a Leave is done with its one step.
func (r *round) stepClient(t *testing.T, k *client) {
	t.Helper()
	if k.leave != nil {
		if !k.leave.Step(r.m) {
			t.Fatal("a Leave isn't done")
		}
		k.leave, k.pinned = nil, false
		return
	}
	if !k.pin.Step(r.m) {
		is(t, k.pin.E, 0)
		return
	}
	is(t, k.pin.E, r.e)
	k.pinned, k.e, k.pin = true, k.pin.E, nil
}

// stepMover tells whether the epoch was moved; it is, with the step by which an Advance is done, and with no other one.
func (r *round) stepMover(t *testing.T, v *mover) bool {
	t.Helper()
	if !v.advance.Step(r.m) {
		is(t, v.advance.E, 0)
		return false
	}
	is(t, v.advance.E, r.e+1)
	if len(r.movers) == 1 {
		is(t, v.advance.E, v.last+1)
	}
	v.last, v.advance = v.advance.E, nil
	return true
}

// checkPinned: the epoch is that of each pinned client, or the next one.
func (r *round) checkPinned(t *testing.T) {
	t.Helper()
	for i, k := range r.clients {
		if k.pinned && r.e != k.e && r.e != k.e+1 {
			t.Fatalf("the epoch is %d, and client %d is pinned in %d", r.e, i, k.e)
		}
	}
}

// copied is another round that goes its own way: the machines are copied as values.
func (r *round) copied() *round {
	o := *r
	o.m, o.clients, o.movers = r.m.Copy(), slices.Clone(r.clients), slices.Clone(r.movers)
	for i := range o.clients {
		k := &o.clients[i]
		if k.pin != nil {
			p := *k.pin
			k.pin = &p
		}
		if k.leave != nil {
			l := *k.leave
			k.leave = &l
		}
	}
	for i := range o.movers {
		v := &o.movers[i]
		if v.advance != nil {
			a := *v.advance
			v.advance = &a
		}
	}
	return &o
}

// state is all that the steps to come hang on, as a text.
func (r *round) state() string {
	l := []any{r.m.Words()}
	for _, k := range r.clients {
		l = append(l, k.rounds, k.pinned, k.e)
		if k.pin != nil {
			l = append(l, *k.pin)
		}
		if k.leave != nil {
			l = append(l, *k.leave)
		}
	}
	for _, v := range r.movers {
		l = append(l, v.times, v.last)
		if v.advance != nil {
			l = append(l, *v.advance)
		}
	}
	return fmt.Sprintf("%+v", l)
}

// allOrders goes through all orders in which the workers can take their steps, and is how many states all were done in. Where two orders come to the same state, what follows is gone through once: so does one that waits.
func (r *round) allOrders(t *testing.T, seen map[string]bool) int {
	t.Helper()
	ended, busy := 0, false
	for i := range r.workers() {
		if !r.busy(i) {
			continue
		}
		busy = true
		o := r.copied()
		o.step(t, i)
		if key := o.state(); !seen[key] {
			seen[key] = true
			ended += o.allOrders(t, seen)
		}
	}
	if !busy {
		return 1
	}
	return ended
}

// P8.2: a few clients and movers, in all orders of their steps.
func TestAllOrders(t *testing.T) {
	for _, k := range []struct {
		name          string
		rounds, times []int
		least         int
	}{
		{"one client, one mover", []int{1}, []int{1}, 15},
		{"one client, one mover that goes on", []int{1}, []int{4}, 50},
		{"one client comes again, one mover goes on", []int{3}, []int{4}, 150},
		{"two clients, one mover goes on", []int{1, 1}, []int{3}, 300},
		{"two clients come again, one mover goes on", []int{2, 2}, []int{3}, 1000},
		{"one client, two movers go on", []int{2}, []int{2, 2}, 500},
		{"two clients, two movers", []int{1, 1}, []int{2, 1}, 1000},
		{"three clients, one mover", []int{1, 1, 1}, []int{2}, 1000},
	} {
		for _, e := range []uint64{0, 1<<31 - 3} {
			seen := map[string]bool{}
			ended := newRound(e, k.rounds, k.times).allOrders(t, seen)
			if ended == 0 || len(seen) < k.least {
				t.Errorf("%s: %d states, all done in %d", k.name, len(seen), ended)
			}
		}
	}
}

// draw is the next of a row of numbers that looks like no order at all.
func draw(seed *uint64) int {
	*seed = *seed*6364136223846793005 + 1442695040888963407
	return int(*seed >> 33)
}

// some are so many numbers, from 1 to a most.
func some(n, most int, seed *uint64) []int {
	l := make([]int, n)
	for i := range l {
		l[i] = 1 + draw(seed)%most
	}
	return l
}

// inSomeOrder has the workers take steps till none is busy. Often one takes several in a row, so that some get far ahead while another one is between two loads.
func (r *round) inSomeOrder(t *testing.T, seed *uint64) {
	t.Helper()
	last := 0
	for range 200000 {
		l := []int{}
		for i := range r.workers() {
			if r.busy(i) {
				l = append(l, i)
			}
		}
		if len(l) == 0 {
			return
		}
		if !slices.Contains(l, last) || draw(seed)%4 == 0 {
			last = l[draw(seed)%len(l)]
		}
		r.step(t, last)
	}
	t.Fatal("the work isn't done")
}

// P8.2: many clients that pin themselves and leave while the epoch is advanced, by one and by several, in many orders of their steps.
func TestManyOrders(t *testing.T) {
	for clients := range 8 {
		for seed := range uint64(60) {
			times := some(1+int(seed%3), 20, &seed)
			r := newRound(uint64(draw(&seed)%9), some(clients+1, 20, &seed), times)
			began := r.e
			r.inSomeOrder(t, &seed)
			sum := 0
			for _, n := range times {
				sum += n
			}
			if r.moves != uint64(sum) || r.e != began+uint64(sum) {
				t.Fatalf("%d advances, and the epoch went from %d to %d", sum, began, r.e)
			}
		}
	}
}

// Rule 6: the same steps in the same order come to the same words.
func TestSameStepsSameWords(t *testing.T) {
	run := func() []uint64 {
		seed := uint64(11)
		r := newRound(3, some(5, 9, &seed), some(2, 9, &seed))
		r.inSomeOrder(t, &seed)
		return r.m.Words()
	}
	if first := run(); !slices.Equal(first, run()) {
		t.Error("the same steps came to other words")
	}
}
