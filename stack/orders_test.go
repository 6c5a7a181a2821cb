package stack_test

import (
	"fmt"
	"slices"
	"testing"

	"withy/api"
	"withy/mem"
	"withy/plan"
	"withy/stack"
)

// take is, in a worker's program, to take a slot; another number is to lay the slot that it took so many takes ago.
const take = -1

// worker takes and lays slots, as its program says, one machine after the other.
type worker struct {
	program []int
	pop     *stack.Pop
	push    *stack.Push
	laying  int
	held    []int // in the order they were taken
}

// store is a memory with workers, and the free list as it was behind the last step.
type store struct {
	c       api.Config
	m       *mem.Mem
	workers []worker
	list    []int
}

// newStore is a store of a config, with a worker of each program.
func newStore(c api.Config, programs [][]int) *store {
	s := &store{c: c, m: plan.Memory(c), list: numbers(c.Slots)}
	for _, p := range programs {
		s.workers = append(s.workers, worker{program: p})
	}
	return s
}

// begin gives a worker the next machine of its program. Where it has nothing to lay, what it should is passed over.
func (s *store) begin(w *worker) {
	for w.pop == nil && w.push == nil && len(w.program) > 0 {
		ago := w.program[0]
		w.program = w.program[1:]
		if ago == take {
			w.pop = stack.NewPop(s.c)
			continue
		}
		if i := len(w.held) - 1 - ago; i >= 0 {
			w.laying = w.held[i]
			w.push = stack.NewPush(s.c, w.laying)
		}
	}
}

// busy tells whether a worker has work left.
func (s *store) busy(i int) bool {
	s.begin(&s.workers[i])
	return s.workers[i].pop != nil || s.workers[i].push != nil
}

// step has a busy worker take a step, and checks all that P7.3 says of it.
func (s *store) step(t *testing.T, i int) {
	t.Helper()
	w := &s.workers[i]
	touches := s.m.Touches()
	var want []int
	if w.pop != nil {
		want = s.popped(t, w)
	} else {
		want = s.pushed(w)
	}
	if s.m.Touches() != touches+1 {
		t.Fatalf("%d touches in one step", s.m.Touches()-touches)
	}
	got := stack.List(s.c, s.m.Words())
	if !slices.Equal(got, want) {
		t.Fatalf("the list is %v, want %v, was %v", got, want, s.list)
	}
	s.list = got
	s.checkParted(t)
}

// popped has a Pop take a step, and is the list that there should be then: without its first slot, which is the one that was taken, or as it was.
func (s *store) popped(t *testing.T, w *worker) []int {
	t.Helper()
	p := w.pop
	if !p.Step(s.m) {
		is(t, p, -1, false)
		return s.list
	}
	w.pop = nil
	if len(s.list) == 0 {
		is(t, p, -1, true)
		return s.list
	}
	is(t, p, s.list[0], false)
	w.held = append(w.held, p.Slot)
	return s.list[1:]
}

// pushed has a Push take a step, and is the list that there should be then: with the slot ahead, or as it was.
func (s *store) pushed(w *worker) []int {
	if !w.push.Step(s.m) {
		return s.list
	}
	w.push = nil
	w.held = slices.DeleteFunc(w.held, func(slot int) bool { return slot == w.laying })
	return append([]int{w.laying}, s.list...)
}

// checkParted: each slot is held by one worker, or stands in the list once, and none is lost.
func (s *store) checkParted(t *testing.T) {
	t.Helper()
	all := slices.Clone(s.list)
	for _, w := range s.workers {
		all = append(all, w.held...)
	}
	slices.Sort(all)
	if !slices.Equal(all, numbers(s.c.Slots)) {
		t.Fatalf("held and listed are %v, the list is %v", all, s.list)
	}
}

// copied is another store that goes its own way: the machines are copied as values.
func (s *store) copied() *store {
	o := &store{c: s.c, m: s.m.Copy(), workers: slices.Clone(s.workers), list: s.list}
	for i := range o.workers {
		w := &o.workers[i]
		w.held = slices.Clone(w.held)
		if w.pop != nil {
			p := *w.pop
			w.pop = &p
		}
		if w.push != nil {
			p := *w.push
			w.push = &p
		}
	}
	return o
}

// state is all that the steps to come hang on, as a text.
func (s *store) state() string {
	l := []any{s.m.Words()}
	for _, w := range s.workers {
		l = append(l, w.program, w.laying, w.held)
		if w.pop != nil {
			l = append(l, *w.pop)
		}
		if w.push != nil {
			l = append(l, *w.push)
		}
	}
	return fmt.Sprintf("%+v", l)
}

// allOrders goes through all orders in which the workers can take their steps. Where two orders come to the same state, what follows is gone through once.
func (s *store) allOrders(t *testing.T, seen map[string]bool) {
	t.Helper()
	for i := range s.workers {
		if !s.busy(i) {
			continue
		}
		o := s.copied()
		o.step(t, i)
		if key := o.state(); !seen[key] {
			seen[key] = true
			o.allOrders(t, seen)
		}
	}
}

// P7.3: a few machines, in all orders of their steps.
func TestAllOrders(t *testing.T) {
	for _, k := range []struct {
		name     string
		slots    int
		programs [][]int
	}{
		{"two take the one slot", 1, [][]int{{take}, {take}}},
		{"two take one of two", 2, [][]int{{take}, {take}}},
		{"three take one of three", 3, [][]int{{take}, {take}, {take}}},
		{"three take one of two", 2, [][]int{{take}, {take}, {take}}},
		{"one takes, one takes two and lays the first again", 3, [][]int{{take}, {take, take, 1}}},
		{"one takes, one takes the one slot and lays it again, twice", 1, [][]int{{take}, {take, 0, take, 0}}},
		{"both take and lay", 2, [][]int{{take, 0}, {take, 0}}},
		{"both take and lay the one slot", 1, [][]int{{take, 0}, {take, 0}}},
		{"one takes two and lays both, one takes one and lays it", 3, [][]int{{take, take, 1, 0}, {take, 0}}},
		{"three take and lay", 2, [][]int{{take, 0}, {take, 0}, {take, 0}}},
	} {
		seen := map[string]bool{}
		newStore(config(k.slots), k.programs).allOrders(t, seen)
		if len(seen) < 18 {
			t.Errorf("%s: %d states, but two that take one slot have 18 already", k.name, len(seen))
		}
	}
}

// draw is the next of a row of numbers that looks like no order at all.
func draw(seed *uint64) int {
	*seed = *seed*6364136223846793005 + 1442695040888963407
	return int(*seed >> 33)
}

// manyPrograms are programs of takes and lays, another one for each worker and seed.
func manyPrograms(workers, length int, seed *uint64) [][]int {
	l := make([][]int, workers)
	for i := range l {
		for range length {
			what := take
			if draw(seed)%2 == 0 {
				what = draw(seed) % 3
			}
			l[i] = append(l[i], what)
		}
	}
	return l
}

// pick is a worker for the next step: often the one before, so that some get far ahead while another one is between its load and its swap.
func pick(n, before int, seed *uint64) int {
	if draw(seed)%3 != 0 {
		return before
	}
	return draw(seed) % n
}

// P7.3: many machines, in many orders of their steps, over lists that are often empty and lists that never are.
func TestManyOrders(t *testing.T) {
	for _, c := range []api.Config{config(1), config(2), config(5), {Slots: 16, Arity: 5, Clients: 3, Handles: 2, Gens: 4, Stack: 1}, config(64)} {
		for seed := range uint64(60) {
			s := newStore(c, manyPrograms(2+int(seed%9), 12, &seed))
			s.inSomeOrder(t, &seed)
		}
	}
}

// inSomeOrder has the workers take steps till none is busy.
func (s *store) inSomeOrder(t *testing.T, seed *uint64) {
	t.Helper()
	last := 0
	for range 100000 {
		if !slices.ContainsFunc(numbers(len(s.workers)), s.busy) {
			return
		}
		last = pick(len(s.workers), last, seed)
		if s.busy(last) {
			s.step(t, last)
		} else {
			last = draw(seed) % len(s.workers)
		}
	}
	t.Fatal("the work isn't done")
}

// P7.3: as many as there are slots, and some more, take in turn, one step each: every slot is taken by one, and the others find none.
func TestAllTakeInTurn(t *testing.T) {
	for _, c := range configs() {
		programs := slices.Repeat([][]int{{take}}, c.Slots+3)
		s := newStore(c, programs)
		for slices.ContainsFunc(numbers(len(programs)), s.busy) {
			for i := range programs {
				if s.busy(i) {
					s.step(t, i)
				}
			}
		}
		taken := 0
		for _, w := range s.workers {
			taken += len(w.held)
		}
		if taken != c.Slots || len(s.list) != 0 {
			t.Errorf("%+v: %d taken, %v left", c, taken, s.list)
		}
	}
}

// Rule 6: the same steps in the same order come to the same words.
func TestSameStepsSameWords(t *testing.T) {
	run := func() []uint64 {
		seed := uint64(11)
		s := newStore(config(5), manyPrograms(4, 20, &seed))
		s.inSomeOrder(t, &seed)
		return s.m.Words()
	}
	if first := run(); !slices.Equal(first, run()) {
		t.Error("the same steps came to other words")
	}
}
