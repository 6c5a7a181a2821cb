package shade_test

import (
	"fmt"
	"slices"
	"testing"

	"withy/api"
	"withy/mem"
	"withy/plan"
	"withy/shade"
)

// shader shades slots, one machine after the other.
type shader struct {
	slots []int
	slot  int // of its machine
	s     *shade.Shade
}

// scene is a memory with some that shade, all in one epoch, and what came of it so far.
type scene struct {
	c       api.Config
	m       *mem.Mem
	e       uint64
	workers []shader
	asked   []bool // of each slot: is there one that shades it?
	grown   []int  // of each slot: how many Grew
	before  []uint64
}

// newScene is a memory whose slots have these headers, and as many grays as are gray, with a worker for each list of slots.
func newScene(t *testing.T, e uint64, headers []api.Header, lists [][]int) *scene {
	t.Helper()
	c := config(len(headers))
	words := plan.Memory(c).Words()
	for slot, h := range headers {
		words[plan.Header(c, slot)] = word(t, h)
	}
	words[plan.Grays] = uint64(shade.Grays(c, words))
	f := &scene{c: c, m: mem.Of(words), e: e, asked: make([]bool, c.Slots), grown: make([]int, c.Slots), before: words}
	for _, l := range lists {
		f.workers = append(f.workers, shader{slots: l})
		for _, slot := range l {
			f.asked[slot] = true
		}
	}
	return f
}

// busy tells whether a worker has work left, and gives it its next machine.
func (f *scene) busy(i int) bool {
	w := &f.workers[i]
	if w.s == nil && len(w.slots) > 0 {
		w.slot, w.slots = w.slots[0], w.slots[1:]
		w.s = shade.NewShade(f.c, w.slot, f.e)
	}
	return w.s != nil
}

// step has a busy worker take a step, and holds the grays against the gray slots.
func (f *scene) step(t *testing.T, i int) {
	t.Helper()
	w := &f.workers[i]
	touches := f.m.Touches()
	done := w.s.Step(f.m)
	if f.m.Touches() != touches+1 {
		t.Fatalf("%d touches in one step", f.m.Touches()-touches)
	}
	words := f.m.Words()
	if n := shade.Grays(f.c, words); words[plan.Grays] < uint64(n) || words[plan.Grays] > uint64(n+len(f.workers)) {
		t.Fatalf("the grays are %d, and %d slots are gray", words[plan.Grays], n)
	}
	if w.s.Grew {
		f.grown[w.slot]++
		if !done {
			t.Fatal("one Grew that isn't done")
		}
	}
	if done {
		w.s = nil
	}
}

// checkEnd: each slot that could be shaded, and that one was to shade, is shaded by just one; the grays have grown by just these; the other words are what they were.
func (f *scene) checkEnd(t *testing.T, headers []api.Header) {
	t.Helper()
	want := slices.Clone(f.before)
	for slot, h := range headers {
		could := (h.Kind == api.Node || h.Kind == api.Record) && h.Mark != black(f.e)
		grown := 0
		if could && f.asked[slot] {
			h.Mark, h.Gray = black(f.e), true
			want[plan.Header(f.c, slot)] = word(t, h)
			want[plan.Grays]++
			grown = 1
		}
		if f.grown[slot] != grown {
			t.Fatalf("slot %d: %d Grew, want %d", slot, f.grown[slot], grown)
		}
	}
	if got := f.m.Words(); !slices.Equal(got, want) {
		t.Fatalf("the words are %x, want %x", got, want)
	}
}

// copied is another scene that goes its own way: the machines are copied as values.
func (f *scene) copied() *scene {
	o := *f
	o.m, o.workers, o.grown = f.m.Copy(), slices.Clone(f.workers), slices.Clone(f.grown)
	for i := range o.workers {
		if w := &o.workers[i]; w.s != nil {
			s := *w.s
			w.s = &s
		}
	}
	return &o
}

// state is all that the steps to come hang on, as a text.
func (f *scene) state() string {
	l := []any{f.m.Words(), f.grown}
	for _, w := range f.workers {
		l = append(l, w.slots, w.slot)
		if w.s != nil {
			l = append(l, *w.s)
		}
	}
	return fmt.Sprintf("%+v", l)
}

// allOrders goes through all orders in which the workers can take their steps, to the end, and is how many states all were done in. Where two orders come to the same state, what follows is gone through once.
func (f *scene) allOrders(t *testing.T, headers []api.Header, seen map[string]bool) int {
	t.Helper()
	ended, busy := 0, false
	for i := range f.workers {
		if !f.busy(i) {
			continue
		}
		busy = true
		o := f.copied()
		o.step(t, i)
		if key := o.state(); !seen[key] {
			seen[key] = true
			ended += o.allOrders(t, headers, seen)
		}
	}
	if !busy {
		f.checkEnd(t, headers)
		return 1
	}
	return ended
}

// mixed are headers of which some can be shaded in an epoch, some can't, and some are gray and marked already.
func mixed(n int, e uint64) []api.Header {
	row := []api.Header{
		{Kind: api.Node, Mark: 1 - black(e), Arity: 2},
		{Kind: api.Record, Mark: 1 - black(e), Gen: 4},
		{Kind: api.Node, Mark: black(e), Gray: true},
		{Kind: api.Limbo, Mark: 1 - black(e), Stamp: 9},
		{Kind: api.Record, Mark: black(e)},
		{Kind: api.Node, Mark: 1 - black(e), Gen: 1},
		{Kind: api.Free, Gen: 8},
		{Kind: api.Dead, Mark: 1 - black(e)},
		{Kind: api.Record, Mark: black(e), Gray: true, Gen: 1},
	}
	l := make([]api.Header, n)
	for i := range l {
		l[i] = row[i%len(row)]
	}
	return l
}

// P9.3: a few that shade the same slots, in all orders of their steps.
func TestAllOrders(t *testing.T) {
	for _, k := range []struct {
		name  string
		slots int
		lists [][]int
		least int
	}{
		{"two shade one slot", 1, [][]int{{0}, {0}}, 18},
		{"three shade one slot", 1, [][]int{{0}, {0}, {0}}, 60},
		{"four shade one slot", 1, [][]int{{0}, {0}, {0}, {0}}, 200},
		{"two shade two slots, one the other way round", 2, [][]int{{0, 1}, {1, 0}}, 60},
		{"three shade two slots", 2, [][]int{{0, 1}, {1, 0}, {0, 1}}, 400},
		{"two shade one slot, and again", 1, [][]int{{0, 0}, {0, 0}}, 20},
		{"two shade all that there are of kinds", 9, [][]int{{0, 1, 2, 3, 4, 5, 6, 7, 8}, {8, 7, 6, 5, 4, 3, 2, 1, 0}}, 200},
		{"one shades one slot alone", 3, [][]int{{1}, {0}}, 10},
	} {
		for e := range uint64(8) {
			headers := mixed(k.slots, e)
			seen := map[string]bool{}
			ended := newScene(t, e, headers, k.lists).allOrders(t, headers, seen)
			if ended == 0 || len(seen) < k.least {
				t.Errorf("%s: %d states, want %d or more; all done in %d", k.name, len(seen), k.least, ended)
			}
		}
	}
}

// draw is the next of a row of numbers that looks like no order at all.
func draw(seed *uint64) int {
	*seed = *seed*6364136223846793005 + 1442695040888963407
	return int(*seed >> 33)
}

// manyLists are lists of slots, another one for each worker and seed.
func manyLists(workers, length, slots int, seed *uint64) [][]int {
	l := make([][]int, workers)
	for i := range l {
		for range length {
			l[i] = append(l[i], draw(seed)%slots)
		}
	}
	return l
}

// inSomeOrder has the workers take steps till none is busy. Often one takes several in a row, so that some get far ahead while another one is between its load and its swap.
func (f *scene) inSomeOrder(t *testing.T, seed *uint64) {
	t.Helper()
	last := 0
	for range 100000 {
		l := []int{}
		for i := range f.workers {
			if f.busy(i) {
				l = append(l, i)
			}
		}
		if len(l) == 0 {
			return
		}
		if !slices.Contains(l, last) || draw(seed)%3 == 0 {
			last = l[draw(seed)%len(l)]
		}
		f.step(t, last)
	}
	t.Fatal("the work isn't done")
}

// P9.3: many that shade the same slots, in many orders of their steps.
func TestManyOrders(t *testing.T) {
	for _, slots := range []int{1, 2, 3, 9, 20, 64} {
		for seed := range uint64(60) {
			e := seed % 8
			headers := mixed(slots, e)
			f := newScene(t, e, headers, manyLists(2+int(seed%9), 2*slots, slots, &seed))
			f.inSomeOrder(t, &seed)
			f.checkEnd(t, headers)
		}
	}
}

// P9.3: many shade the same slots in turn, one step each.
func TestAllShadeInTurn(t *testing.T) {
	headers := mixed(12, 2)
	all := []int{0, 1, 2, 3, 4, 5, 6, 7, 8, 9, 10, 11}
	f := newScene(t, 2, headers, slices.Repeat([][]int{all}, 20))
	for range 1000 {
		for i := range f.workers {
			if f.busy(i) {
				f.step(t, i)
			}
		}
	}
	f.checkEnd(t, headers)
	for i := range f.workers {
		if f.busy(i) {
			t.Errorf("the one numbered %d isn't done", i)
		}
	}
}

// Rule 6: the same steps in the same order come to the same words.
func TestSameStepsSameWords(t *testing.T) {
	run := func() []uint64 {
		seed := uint64(11)
		f := newScene(t, 1, mixed(7, 1), manyLists(4, 9, 7, &seed))
		f.inSomeOrder(t, &seed)
		return f.m.Words()
	}
	if first := run(); !slices.Equal(first, run()) {
		t.Error("the same steps came to other words")
	}
}
