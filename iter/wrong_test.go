package iter_test

import (
	"math"
	"testing"

	"withy/api"
	"withy/field"
	"withy/iter"
	"withy/mem"
	"withy/plan"
)

// noNumbers are numbers of which there is no thing, where there are n, counted from 0.
func noNumbers(n int) []int {
	return []int{math.MinInt, math.MinInt + 1, -1 << 32, -64, -2, -1, n, n + 1, 64, 65, 1 << 16, 1 << 32, 1<<32 + 1, 1 << 62, math.MaxInt - 1, math.MaxInt}
}

// P20.1: no walks of configs that aren't right.
func TestWrongConfigs(t *testing.T) {
	for _, c := range wrongConfigs() {
		for _, start := range []int{-1, 0, 1, 2, 63, 64} {
			if iter.NewWalk(c, start, 1, field.NewBook()) != nil {
				t.Errorf("NewWalk(%+v, %d, ..): a walk", c, start)
			}
		}
	}
}

// P20.1: no walks from slots that there are not; from all others there are.
func TestWrongStarts(t *testing.T) {
	for _, c := range configs() {
		for _, start := range noNumbers(c.Slots) {
			if iter.NewWalk(c, start, 1, field.NewBook()) != nil {
				t.Errorf("NewWalk(%+v, %d, ..): a walk", c, start)
			}
		}
		for start := range c.Slots {
			if iter.NewWalk(c, start, 1, field.NewBook()) == nil {
				t.Errorf("NewWalk(%+v, %d, ..): nil", c, start)
			}
		}
	}
}

// P20.1: no walks without a book; one that no maker made will do.
func TestWithoutABook(t *testing.T) {
	for _, c := range configs() {
		if iter.NewWalk(c, 0, 1, nil) != nil {
			t.Errorf("NewWalk(%+v, 0, 1, nil): a walk", c)
		}
		if iter.NewWalk(c, 0, 1, &field.Book{}) == nil {
			t.Errorf("NewWalk(%+v, 0, 1, a book): nil", c)
		}
	}
}

// P20.1, P20.2: a nil walk, in whatever memory, and one that no maker made.
func TestNilWalks(t *testing.T) {
	k := newBench(t, config(2, 1))
	for _, w := range []*iter.Walk{nil, {}, iter.NewWalk(k.c, 2, 1, k.b), iter.NewWalk(api.Config{}, 0, 1, k.b), iter.NewWalk(k.c, 0, 1, nil)} {
		for range 3 {
			k.isWalk(w, 0, none)
			k.goes(w, none)
			k.over(w)
			same(t, "Step without a memory", w.Step(nil), true)
		}
	}
}

// Rule 5: in a nil memory a node has no fields.
func TestNilMemory(t *testing.T) {
	c := config(3, 2)
	w := iter.NewWalk(c, 2, 1, field.NewBook())
	same(t, "Go", w.Go(), none)
	same(t, "Step", w.Step(nil), true)
	same(t, "Left", w.Left(), 1)
	same(t, "Go", w.Go(), 2)
	same(t, "Step", w.Step(nil), true)
	same(t, "Left", w.Left(), 0)
}

// busy is a memory of a config in which the way of a walk is long.
func busy(t *testing.T, c api.Config) *mem.Mem {
	k := newBench(t, c)
	k.node(0, 2, 3)
	k.node(1, 2, 2)
	k.record(2, 1, 0, none)
	k.record(3, 0, 9, 2)
	return k.m
}

// Rule 5: no step panics in a memory that isn't the config's, wherever the walk is: none, one with fewer words, or one of another config's; and none does more than one touch.
func TestOtherMemories(t *testing.T) {
	c := config(4, 2)
	memories := []func() *mem.Mem{func() *mem.Mem { return nil }}
	for n := range plan.Size(c) {
		memories = append(memories, func() *mem.Mem { return mem.Of(busy(t, c).Words()[:n]) })
	}
	for _, other := range configs() {
		memories = append(memories, func() *mem.Mem { return plan.Memory(other) })
	}
	memories = append(memories, func() *mem.Mem {
		words := make([]uint64, plan.Size(c))
		for i := range words {
			words[i] = math.MaxUint64
		}
		return mem.Of(words)
	})
	for ahead := range 16 {
		for _, other := range memories {
			right, wrong := busy(t, c), other()
			w := iter.NewWalk(c, 0, 1, field.NewBook())
			for range ahead {
				if w.Step(right) {
					w.Go()
				}
			}
			for range 20 {
				before := wrong.Touches()
				if w.Step(wrong) {
					w.Go()
				}
				if wrong.Touches() > before+1 {
					t.Fatalf("%d touches in one step", wrong.Touches()-before)
				}
			}
		}
	}
}
