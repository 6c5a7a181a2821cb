package mark_test

import (
	"fmt"
	"slices"
	"testing"

	"withy/api"
	"withy/field"
	"withy/head"
	"withy/mark"
	"withy/mem"
	"withy/plan"
	"withy/shade"
)

// during is the epoch in which the Marks here work: the first cycle's.
const during = 2

// reached is the slots that can be reached from entries and starts, through fields, values and older records, at once.
func reached(c api.Config, words []uint64) []bool {
	white := slices.Clone(words)
	for slot := range c.Slots {
		white[plan.Header(c, slot)] &^= 8 + 16
	}
	return found(c, white, during)
}

// allMarked: each of these slots is marked.
func allMarked(t *testing.T, what string, c api.Config, words []uint64, l []bool) {
	for slot, is := range l {
		if is && !head.Marked(words[plan.Header(c, slot)], during) {
			t.Helper()
			t.Fatalf("the slot %d, %s, isn't marked", slot, what)
		}
	}
}

// scene is a Mark and some that shade what is held, in one memory.
type scene struct {
	c      api.Config
	m      *mem.Mem
	first  []bool // what could be reached at first
	mark   mark.Mark
	done   bool
	shades []shade.Shade
	shaded []bool // which of them are done
}

// busy tells whether one of them has work left: the first that shades is 0, the Mark comes behind the last.
func (f *scene) busy(i int) bool {
	if i < len(f.shades) {
		return !f.shaded[i]
	}
	return !f.done
}

// step has one of them go a step on.
func (f *scene) step(t *testing.T, i int) {
	touches := f.m.Touches()
	if i < len(f.shades) {
		f.shaded[i] = f.shades[i].Step(f.m)
	} else {
		f.done = f.mark.Step(f.m)
	}
	if f.m.Touches() != touches+1 {
		t.Fatalf("%d touches in one step", f.m.Touches()-touches)
	}
	f.check(t)
}

// check: the grays are never fewer than the gray slots; once the Mark is done none is gray any more, and all that could be reached is marked.
func (f *scene) check(t *testing.T) {
	words := f.m.Words()
	grays := shade.Grays(f.c, words)
	if uint64(grays) > words[plan.Grays] {
		t.Fatalf("the grays are %d, of %d gray slots", words[plan.Grays], grays)
	}
	if f.done {
		same(t, "gray slots", grays, 0)
		allMarked(t, "that could be reached at first", f.c, words, f.first)
	}
}

// copied is another scene that goes its own way.
func (f *scene) copied() *scene {
	o := *f
	o.m, o.shades, o.shaded = f.m.Copy(), slices.Clone(f.shades), slices.Clone(f.shaded)
	return &o
}

// state is all that the steps to come hang on, as a text.
func (f *scene) state() string {
	return fmt.Sprint(f.m.Words(), f.mark, f.done, f.shades, f.shaded)
}

// allOrders goes through all orders in which they can take their steps. Where two orders come to the same state, what follows is gone through once. Of each end it is told how many passes there were.
func (f *scene) allOrders(t *testing.T, seen map[string]bool, ends map[int]int) {
	over := true
	for i := range len(f.shades) + 1 {
		if !f.busy(i) {
			continue
		}
		over = false
		o := f.copied()
		o.step(t, i)
		if key := o.state(); !seen[key] && o.mark.Passes < 5 { // a Mark that waits for another one would go on for ever
			seen[key] = true
			o.allOrders(t, seen, ends)
		}
	}
	if over {
		same(t, "grays", f.m.Words()[plan.Grays], 0)
		ends[f.mark.Passes]++
	}
}

// P13.1, P13.4: a Mark, and one or two that shade what can be reached, in all orders of their steps.
func TestAllOrders(t *testing.T) {
	for _, stack := range []int{0, 1, 4} {
		for _, slots := range [][]int{{0}, {1}, {2}, {0, 0}, {1, 1}, {0, 2}} {
			k := newBench(t, api.Config{Slots: 3, Arity: 1, Clients: 1, Handles: 1, Gens: 9, Stack: stack})
			k.node(2, 1)
			k.record(1, 0, 1, none)
			k.node(0)
			k.holds(0, 0, 2)
			f := &scene{c: k.c, m: k.m, first: reached(k.c, k.m.Words()), mark: *mark.NewMark(k.c, during)}
			for _, slot := range slots {
				f.shades = append(f.shades, *shade.NewShade(k.c, slot, during))
				f.shaded = append(f.shaded, false)
			}
			seen, ends := map[string]bool{}, map[int]int{}
			f.allOrders(t, seen, ends)
			if len(seen) < 100 || len(ends) == 0 {
				t.Errorf("Stack %d, shaded %v: %d states, which come to so many passes: %v", stack, slots, len(seen), ends)
			}
		}
	}
}

// layer lays one record after the other on fields.
type layer struct {
	fresh []int // the records that it may lay
	lay   *field.Lay
	laid  int
}

// lays is a scene in which some lay records, while a Mark works.
type lays struct {
	k      *bench
	book   *field.Book
	first  []bool
	mark   *mark.Mark
	done   bool
	layers []layer
}

// newLays has nodes that are all held, some of which hold others by records with older ones, and for each layer some records that nobody has yet.
func newLays(t *testing.T, c api.Config, layers int, seed *uint64) *lays {
	f := &lays{k: newBench(t, c), book: field.NewBook(), mark: mark.NewMark(c, during)}
	k, nodes := f.k, c.Clients*c.Handles
	k.m.Store(plan.Clock, uint64(3+draw(seed)%4))
	next := nodes
	for slot := range nodes {
		k.node(slot, slices.Repeat([]int{none}, c.Arity)...)
		k.holds(slot/c.Handles, slot%c.Handles, slot)
		if slot%3 == 2 {
			continue
		}
		back := none
		for i := range draw(seed) % 3 {
			k.record(next, draw(seed)%nodes, uint64(1+i), back)
			back = next
			next++
		}
		k.m.Store(plan.Body(c, slot, draw(seed)%c.Arity), uint64(back+1))
	}
	f.layers = make([]layer, layers)
	for i := 0; next < c.Slots; i++ {
		w, _ := head.Made(api.Record, 0, 0, during)
		k.m.Store(plan.Header(c, next), w)
		k.m.Store(plan.Body(c, next, value), uint64(draw(seed)%(nodes+1)))
		f.layers[i%layers].fresh = append(f.layers[i%layers].fresh, next)
		next++
	}
	f.first = reached(c, k.m.Words())
	return f
}

// busy tells whether one has work left: the Mark comes behind the last layer.
func (f *lays) busy(i int) bool {
	if i == len(f.layers) {
		return !f.done
	}
	return f.layers[i].lay != nil || len(f.layers[i].fresh) > 0
}

// step has one go a step on.
func (f *lays) step(i int, seed *uint64) {
	f.book.Now++
	if i == len(f.layers) {
		f.done = f.mark.Step(f.k.m)
	} else {
		f.stepLayer(&f.layers[i], seed)
	}
	f.check()
}

// stepLayer goes on with a Lay, or begins another one: on any field, sometimes only if that has what is expected.
func (f *lays) stepLayer(l *layer, seed *uint64) {
	nodes := f.k.c.Clients * f.k.c.Handles
	if l.lay == nil {
		expect := -2
		if draw(seed)%4 == 0 {
			expect = draw(seed)%(nodes+1) - 1
		}
		l.lay = field.NewLay(f.k.c, draw(seed)%nodes, draw(seed)%f.k.c.Arity, l.fresh[0], expect, during, f.book)
		l.fresh = l.fresh[1:]
	}
	if l.lay.Step(f.k.m) {
		if l.lay.Laid {
			l.laid++
		}
		l.lay = nil
	}
}

// check: once the Mark is done nothing is gray, nor will it be; and all that could be reached at first, and that can be now, is marked.
func (f *lays) check() {
	words := f.k.m.Words()
	grays := shade.Grays(f.k.c, words)
	if uint64(grays) > words[plan.Grays] {
		f.k.t.Fatalf("the grays are %d, of %d gray slots", words[plan.Grays], grays)
	}
	if f.done {
		same(f.k.t, "gray slots", grays, 0)
		same(f.k.t, "grays", words[plan.Grays], 0)
		allMarked(f.k.t, "that could be reached at first", f.k.c, words, f.first)
		allMarked(f.k.t, "that can be reached now", f.k.c, words, reached(f.k.c, words))
	}
}

// P13.1 to P13.4, with chapter 10's barrier: a Mark while others lay records on fields, in many orders of their steps: what could be reached is marked in the end, also where it was taken away meanwhile.
func TestManyOrders(t *testing.T) {
	passes, cuts, laid := 0, 0, 0
	for _, c := range []api.Config{
		{Slots: 12, Arity: 1, Clients: 2, Handles: 1, Gens: 9},
		{Slots: 16, Arity: 2, Clients: 2, Handles: 2, Gens: 9, Stack: 1},
		{Slots: 40, Arity: 3, Clients: 3, Handles: 2, Gens: 9, Stack: 3},
		{Slots: 64, Arity: 8, Clients: 8, Handles: 2, Gens: 9, Stack: 64},
	} {
		for n := range uint64(150) {
			seed := n
			f := newLays(t, c, 1+int(n%5), &seed)
			f.inSomeOrder(&seed)
			passes = max(passes, f.mark.Passes)
			cuts += f.mark.Cuts
			for _, l := range f.layers {
				laid += l.laid
			}
		}
	}
	if passes < 2 || cuts < 100 || laid < 1000 {
		t.Errorf("at most %d passes, %d cuts, and %d records laid: too few", passes, cuts, laid)
	}
}

// inSomeOrder has all take steps till none is busy. Often one takes several in a row, so that some get far ahead while another one is between its load and its swap.
func (f *lays) inSomeOrder(seed *uint64) {
	last := 0
	for range 1000000 {
		l := []int{}
		for i := range len(f.layers) + 1 {
			if f.busy(i) {
				l = append(l, i)
			}
		}
		if len(l) == 0 {
			return
		}
		if !slices.Contains(l, last) || draw(seed)%3 == 0 {
			last = l[draw(seed)%len(l)]
		}
		f.step(last, seed)
	}
	f.k.t.Fatal("the work isn't done")
}

// Rule 6: the same steps in the same order come to the same words.
func TestSameStepsSameWords(t *testing.T) {
	run := func() []uint64 {
		seed := uint64(11)
		f := newLays(t, api.Config{Slots: 16, Arity: 2, Clients: 2, Handles: 2, Gens: 9, Stack: 1}, 3, &seed)
		f.inSomeOrder(&seed)
		return f.k.m.Words()
	}
	if first := run(); !slices.Equal(first, run()) {
		t.Error("the same steps came to other words")
	}
}
