package arena_test

import (
	"fmt"
	"slices"
	"testing"

	"withy/api"
	"withy/arena"
	"withy/head"
	"withy/mem"
	"withy/plan"
	"withy/stack"
)

// What a worker does, one thing behind the other. All but the making and the freeing is done at once.
const (
	node    = iota // a slot is made a node
	record         // a slot is made a record
	retire         // what it made first goes to limbo
	reclaim        // what is the longest in limbo is freed
	stray          // a slot that isn't in limbo, and that no other one frees, is freed, in vain
)

// thing is what a slot was made.
type thing struct {
	slot   int
	header api.Header
	e      uint64
	body   []uint64
}

// worker does what its program says.
type worker struct {
	program []int
	make    *arena.Make
	making  thing // what the Make is to make
	free    *arena.Free
	freeing int
	held    []thing // what it made, and what isn't in limbo
}

// scene is a memory with workers, and what came of their steps so far.
type scene struct {
	c       api.Config
	m       *mem.Mem
	workers []worker
	limbo   []int // what nobody frees yet
	dead    []int
	made    []int // of each slot: how often it was made something
	full    int   // how often it was full
	drawn   uint64
}

// newScene is a scene of a config, with a worker for each program.
func newScene(c api.Config, programs [][]int) *scene {
	f := &scene{c: c, m: plan.Memory(c), made: make([]int, c.Slots)}
	for _, p := range programs {
		f.workers = append(f.workers, worker{program: p, freeing: none})
	}
	return f
}

// busy tells whether a worker has work left.
func (f *scene) busy(i int) bool {
	w := &f.workers[i]
	return w.make != nil || w.free != nil || len(w.program) > 0
}

// step has a busy worker go a step on: of its machine, or of its program, which gives it one, and checks all that P12.3 says.
func (f *scene) step(t *testing.T, i int) {
	w := &f.workers[i]
	touches := f.m.Touches()
	if w.make == nil && w.free == nil {
		what := w.program[0]
		w.program = w.program[1:]
		f.begin(t, w, what)
	}
	switch {
	case w.make != nil:
		f.stepMake(t, w)
	case w.free != nil:
		f.stepFree(t, w)
	}
	if f.m.Touches() > touches+1 {
		t.Fatalf("%d touches in one step", f.m.Touches()-touches)
	}
	f.check(t)
}

// begin does what a worker's program says, or has a machine for it. What there is nothing for is passed over.
func (f *scene) begin(t *testing.T, w *worker, what int) {
	switch what {
	case node, record:
		f.beginMake(w, what)
	case retire:
		f.retire(t, w)
	case reclaim:
		if len(f.limbo) > 0 {
			w.freeing, f.limbo = f.limbo[0], slices.Clone(f.limbo[1:])
			w.free = arena.NewFree(f.c, w.freeing)
		}
	case stray:
		f.stray(t)
	}
}

// beginMake has a worker make something with words that nothing else has.
func (f *scene) beginMake(w *worker, what int) {
	f.drawn++
	e := f.drawn
	h := api.Header{Kind: api.Record, Mark: born(e)}
	if what == node {
		h.Kind, h.Arity = api.Node, int(f.drawn)%(f.c.Arity+1)
	}
	n := int(f.drawn) % (bodySize(f.c) + 1)
	w.making = thing{header: h, e: e, body: slices.Repeat([]uint64{f.drawn << 8}, n)}
	w.make = arena.NewMake(f.c, h.Kind, h.Arity, e, w.making.body)
}

// retire sends what a worker made first to limbo. That is done in an epoch in which the slot isn't marked: of an even cycle, or else of an odd one.
func (f *scene) retire(t *testing.T, w *worker) {
	if len(w.held) == 0 {
		return
	}
	thing := w.held[0]
	w.held = slices.Clone(w.held[1:])
	at := plan.Header(f.c, thing.slot)
	was := f.m.Words()[at]
	now, ok := head.Retired(was, 0)
	if !ok {
		now, ok = head.Retired(was, 4)
	}
	if !ok || !f.m.Swap(at, was, now) {
		t.Fatalf("the slot %d can't be sent to limbo", thing.slot)
	}
	f.limbo = append(slices.Clone(f.limbo), thing.slot)
}

// stray frees a slot that isn't in limbo: in one step, that does nothing.
func (f *scene) stray(t *testing.T) {
	f.drawn++
	slot := int(f.drawn) % f.c.Slots
	if slices.Contains(f.limbo, slot) || slices.ContainsFunc(f.workers, func(w worker) bool { return w.freeing == slot }) {
		return
	}
	free := arena.NewFree(f.c, slot)
	same(t, "Step of a Free in vain", free.Step(f.m), true)
	isFree(t, free, false, false)
	same(t, "kind of touch", f.m.Last().Kind, api.TLoad)
}

// stepMake goes on with a Make: it is Full only if the free list is empty.
func (f *scene) stepMake(t *testing.T, w *worker) {
	if !w.make.Step(f.m) {
		isMake(t, w.make, none, false)
		return
	}
	slot := w.make.Slot
	if slot == none {
		isMake(t, w.make, none, true)
		same(t, "slots in the free list", len(stack.List(f.c, f.m.Words())), 0)
		f.full++
		w.make = nil
		return
	}
	isMake(t, w.make, slot, false)
	w.making.slot = slot
	w.making.header.Gen = f.made[slot]
	f.made[slot]++
	if f.made[slot] > f.c.Gens {
		t.Fatalf("the slot %d was made something %d times", slot, f.made[slot])
	}
	w.held = append(slices.Clone(w.held), w.making)
	w.make = nil
}

// stepFree goes on with a Free: the slot is dead if it was made something as often as it may.
func (f *scene) stepFree(t *testing.T, w *worker) {
	if !w.free.Step(f.m) {
		isFree(t, w.free, false, false)
		return
	}
	last := f.made[w.freeing] == f.c.Gens
	isFree(t, w.free, !last, last)
	if last {
		f.dead = append(slices.Clone(f.dead), w.freeing)
	}
	w.free, w.freeing = nil, none
}

// check: each slot is one thing, and its words say so.
func (f *scene) check(t *testing.T) {
	words := f.m.Words()
	things := make([]int, f.c.Slots)
	for _, slot := range stack.List(f.c, words) {
		things[slot]++
		f.isFreeSlot(t, words, slot)
	}
	makes := 0
	for _, w := range f.workers {
		if w.make != nil {
			makes++
		}
		if w.freeing != none {
			things[w.freeing]++
		}
		for _, thing := range w.held {
			things[thing.slot]++
			f.isThing(t, words, thing)
		}
	}
	for _, slot := range f.limbo {
		things[slot]++
		f.isKind(t, words, slot, api.Limbo)
	}
	for _, slot := range f.dead {
		things[slot]++
		f.isKind(t, words, slot, api.Dead)
	}
	for slot, n := range things {
		if n == 0 {
			makes--
			f.isFreeSlot(t, words, slot)
		}
		if n > 1 || makes < 0 {
			t.Fatalf("the slots are so many things: %v (held, listed, in limbo or dead)", things)
		}
	}
}

// isFreeSlot: what is in the free list, and what was taken and isn't made something yet, is Free, of the generation that it is to be of.
func (f *scene) isFreeSlot(t *testing.T, words []uint64, slot int) {
	if w := words[plan.Header(f.c, slot)]; w != uint64(f.made[slot])<<16 {
		t.Fatalf("the slot %d was made something %d times, and its header is %x", slot, f.made[slot], w)
	}
}

// isKind: a slot is of a kind, and of the generation that it was made last.
func (f *scene) isKind(t *testing.T, words []uint64, slot, kind int) {
	h, ok := head.Unpack(words[plan.Header(f.c, slot)])
	if !ok || h.Kind != kind || h.Gen != f.made[slot]-1 {
		t.Fatalf("the slot %d, that is of kind %d, was made something %d times, and its header is %+v", slot, kind, f.made[slot], h)
	}
}

// isThing: a slot is what its maker made it, and its body is that one's.
func (f *scene) isThing(t *testing.T, words []uint64, thing thing) {
	if w := words[plan.Header(f.c, thing.slot)]; w != header(t, thing.header) {
		t.Fatalf("the slot %d's header is %x, want %+v", thing.slot, w, thing.header)
	}
	for i := range bodySize(f.c) {
		want := uint64(0)
		if i < len(thing.body) {
			want = thing.body[i]
		}
		if got := words[plan.Body(f.c, thing.slot, i)]; got != want {
			t.Fatalf("the slot %d's body has %x at %d, want %x", thing.slot, got, i, want)
		}
	}
}

// copied is another scene that goes its own way: the machines are copied as values.
func (f *scene) copied() *scene {
	o := *f
	o.m, o.workers, o.made = f.m.Copy(), slices.Clone(f.workers), slices.Clone(f.made)
	for i := range o.workers {
		w := &o.workers[i]
		if w.make != nil {
			k := *w.make
			w.make = &k
		}
		if w.free != nil {
			k := *w.free
			w.free = &k
		}
	}
	return &o
}

// state is all that the steps to come hang on, as a text.
func (f *scene) state() string {
	l := []any{f.m.Words(), f.limbo, f.dead, f.made, f.drawn}
	for _, w := range f.workers {
		l = append(l, w.program, w.held, w.freeing)
		if w.make != nil {
			l = append(l, *w.make)
		}
		if w.free != nil {
			l = append(l, *w.free)
		}
	}
	return fmt.Sprint(l...)
}

// allOrders goes through all orders in which the workers can take their steps. Where two orders come to the same state, what follows is gone through once. Of each end it is told how often all slots were made something, and how often it was full.
func (f *scene) allOrders(t *testing.T, seen map[string]bool, ends map[string]int) {
	over := true
	for i := range f.workers {
		if !f.busy(i) {
			continue
		}
		over = false
		o := f.copied()
		o.step(t, i)
		if key := o.state(); !seen[key] {
			seen[key] = true
			o.allOrders(t, seen, ends)
		}
	}
	if over {
		ends[fmt.Sprint(f.made, f.full)]++
	}
}

// P12.3: a few that make, send to limbo and free, in all orders of their steps.
func TestAllOrders(t *testing.T) {
	for _, k := range []struct {
		name        string
		slots, gens int
		programs    [][]int
		ends        []string // what it comes to, in one order or another
	}{
		{"two make, of one slot", 1, 1, [][]int{{node}, {record}}, []string{"[1] 1"}},
		{"two make, of two slots", 2, 1, [][]int{{node}, {record}}, []string{"[1 1] 0"}},
		{"three make, of two slots", 2, 1, [][]int{{node}, {record}, {node}}, []string{"[1 1] 1"}},
		{"one makes, one makes and frees, of one slot and generation", 1, 1, [][]int{{node}, {record, retire, reclaim}}, []string{"[1] 1"}},
		{"one makes, one makes and frees, of one slot and two generations", 1, 2, [][]int{{node}, {record, retire, reclaim}}, []string{"[1] 1", "[2] 0"}},
		{"both make and free, of one slot and two generations", 1, 2, [][]int{{node, retire, reclaim}, {record, retire, reclaim}}, []string{"[1] 1", "[2] 0"}},
		{"both make and free, of two slots", 2, 2, [][]int{{node, retire, reclaim}, {record, retire, reclaim}}, []string{"[1 1] 0", "[2 0] 0"}},
		{"one frees what two make", 2, 2, [][]int{{node, retire}, {record, retire, node}, {reclaim, reclaim}}, []string{"[1 1] 1", "[1 2] 0", "[2 1] 0"}},
		{"one frees what isn't in limbo", 2, 3, [][]int{{node, retire, reclaim, node}, {stray, record, stray}}, []string{"[1 2] 0", "[2 1] 0"}},
	} {
		seen, ends := map[string]bool{}, map[string]int{}
		newScene(config(k.slots, k.gens), k.programs).allOrders(t, seen, ends)
		for _, end := range k.ends {
			if ends[end] == 0 {
				t.Errorf("%s: %d states, and none that comes to %s, but to %v", k.name, len(seen), end, ends)
			}
		}
	}
}

// draw is the next of a row of numbers that looks like no order at all.
func draw(seed *uint64) int {
	*seed = *seed*6364136223846793005 + 1442695040888963407
	return int(*seed >> 33)
}

// manyPrograms are programs, another one for each worker and seed, in which what is made goes again sooner or later.
func manyPrograms(workers, length int, seed *uint64) [][]int {
	often := []int{node, node, record, record, retire, retire, retire, retire, reclaim, reclaim, reclaim, reclaim, stray}
	l := make([][]int, workers)
	for i := range l {
		for range length {
			l[i] = append(l[i], often[draw(seed)%len(often)])
		}
	}
	return l
}

// inSomeOrder has the workers take steps till none is busy. Often one takes several in a row, so that some get far ahead while another one is between its load and its swap.
func (f *scene) inSomeOrder(t *testing.T, seed *uint64) {
	last := 0
	for range 1000000 {
		l := []int{}
		for i := range f.workers {
			if f.busy(i) {
				l = append(l, i)
			}
		}
		if len(l) == 0 {
			return
		}
		if !slices.Contains(l, last) || draw(seed)%3 == 0 {
			last = l[draw(seed)%len(l)]
		}
		f.step(t, last)
	}
	t.Fatal("the work isn't done")
}

// P12.3: many that make, send to limbo and free, in many orders of their steps, with each slot's generations counted: over few slots and many, and few generations and many.
func TestManyOrders(t *testing.T) {
	full, most, dead := 0, 0, 0
	for _, c := range []api.Config{config(1, 1), config(1, 2), config(2, 3), config(3, 1), config(3, 100), {Slots: 8, Arity: 5, Clients: 3, Handles: 2, Gens: 4, Stack: 1}, {Slots: 64, Arity: 8, Clients: 1, Handles: 1, Gens: 2}} {
		for seed := range uint64(40) {
			f := newScene(c, manyPrograms(2+int(seed%7), 30+int(seed%4)*50, &seed))
			f.inSomeOrder(t, &seed)
			full += f.full
			most = max(most, slices.Max(f.made))
			dead += len(f.dead)
		}
	}
	if full < 100 || most < 20 || dead < 100 {
		t.Errorf("it was full %d times, one slot was made something %d times, and %d are dead: too few", full, most, dead)
	}
}

// P12.3: many make and free in turn, one step each, till all slots are dead: each one was made something just as often as its generations say.
func TestAllDie(t *testing.T) {
	for _, gens := range []int{1, 2, 5} {
		c := config(4, gens)
		f := newScene(c, slices.Repeat([][]int{slices.Repeat([]int{node, retire, reclaim}, 12)}, 6))
		for slices.ContainsFunc([]int{0, 1, 2, 3, 4, 5}, f.busy) {
			for i := range f.workers {
				if f.busy(i) {
					f.step(t, i)
				}
			}
		}
		same(t, "dead slots", len(f.dead), c.Slots)
		for slot := range c.Slots {
			same(t, "makings", f.made[slot], gens)
		}
		if f.full == 0 {
			t.Error("it was never full")
		}
	}
}

// Rule 6: the same steps in the same order come to the same words.
func TestSameStepsSameWords(t *testing.T) {
	run := func() []uint64 {
		seed := uint64(11)
		f := newScene(config(4, 6), manyPrograms(4, 30, &seed))
		f.inSomeOrder(t, &seed)
		return f.m.Words()
	}
	if first := run(); !slices.Equal(first, run()) {
		t.Error("the same steps came to other words")
	}
}
