package mark_test

import (
	"slices"
	"testing"

	"withy/api"
	"withy/mark"
	"withy/mem"
	"withy/plan"
)

// P13.1, P13.3: no machine of a config that isn't right, and nothing found, however many words there are.
func TestWrongConfigs(t *testing.T) {
	for _, c := range wrongConfigs() {
		for _, e := range epochs() {
			if mark.NewMark(c, e) != nil {
				t.Errorf("NewMark(%+v, %d): a machine", c, e)
			}
			for _, size := range []int{0, 1, 4, plan.Size(config(3, 1)), plan.Size(greatest()), 1000} {
				if got := mark.Found(c, make([]uint64, size), e); len(got) != 0 {
					t.Errorf("Found(%+v, %d words, %d): %v", c, size, e, got)
				}
			}
		}
	}
}

// P13.1: of a right config there is one, in every epoch.
func TestRightConfigs(t *testing.T) {
	for _, c := range configs() {
		for _, e := range epochs() {
			s := mark.NewMark(c, e)
			if s == nil {
				t.Fatalf("NewMark(%+v, %d): nil", c, e)
			}
			isMark(t, s, 0, 0)
		}
	}
}

// P13.3: nothing is found in words that are fewer or more than the plan's; in as many of them there is an answer for each slot.
func TestFoundOfWrongWords(t *testing.T) {
	for _, c := range configs() {
		size := plan.Size(c)
		words := slices.Concat(plan.Memory(c).Words(), []uint64{1, 1, 1})
		for _, n := range []int{0, 1, 3, 4, 5, plan.Header(c, 0), size - bodySize(c), size - 1, size + 1, size + 2, size + 3} {
			if got := mark.Found(c, words[:n], 2); len(got) != 0 {
				t.Errorf("Found(%+v, %d words): %v", c, n, got)
			}
		}
		if got := mark.Found(c, nil, 2); len(got) != 0 {
			t.Errorf("Found(%+v, no words): %v", c, got)
		}
		if got := mark.Found(c, words[:size], 2); !slices.Equal(got, make([]bool, c.Slots)) {
			t.Errorf("Found(%+v, a new memory's words): %v", c, got)
		}
	}
}

// Rule 4: the words that are handed in stay as they were, their spare room too, and what is answered is new, with its spare room.
func TestFoundKeepsNothing(t *testing.T) {
	k := newBench(t, config(5, 1))
	k.chain()
	size := plan.Size(k.c)
	words := slices.Concat(k.m.Words(), []uint64{71, 72})
	before := slices.Clone(words)
	first, second := mark.Found(k.c, words[:size], 2), mark.Found(k.c, words[:size], 2)
	want := slices.Clone(second)
	for i := range first[:cap(first)] {
		first[:cap(first)][i] = !first[:cap(first)][i]
	}
	if !slices.Equal(words, before) || !slices.Equal(second, want) || !slices.Equal(mark.Found(k.c, words[:size], 2), want) {
		t.Fatal("what is answered is shared")
	}
}

// P13.1, P13.3: words that are no right headers': such slots are neither gone through, nor found, nor marked.
func TestWrongHeaders(t *testing.T) {
	for _, w := range noHeaders() {
		for _, stack := range []int{0, 3} {
			k := newBench(t, config(3, stack))
			k.node(0, 1)
			k.node(2)
			k.m.Store(plan.Header(k.c, 1), w)
			for i := range 3 {
				k.m.Store(plan.Body(k.c, 1, i), 3)
			}
			k.holds(0, 0, 0)
			k.m.Store(plan.Start(k.c, 0), 2)
			if got := mark.Found(k.c, k.m.Words(), 2); !slices.Equal(got, []bool{true, false, false}) {
				t.Fatalf("%x: Found: %v", w, got)
			}
			k.marks(2)
			k.isMarked(2, 0)
			same(t, "header", k.head(1), w)
		}
	}
}

// P13.1: a nil machine's work is done, in whatever memory.
func TestNilMachines(t *testing.T) {
	k := newBench(t, config(2, 1))
	for _, s := range []mem.Machine{(*mark.Mark)(nil), mark.NewMark(api.Config{}, 0)} {
		k.over(s)
		same(t, "Step of a nil machine without a memory", s.Step(nil), true)
	}
}

// P2.4, rule 5: a machine that no maker made does no harm.
func TestUnmade(t *testing.T) {
	k := newBench(t, config(3, 1))
	k.chain()
	k.grays(0)
	for _, m := range []*mem.Mem{nil, k.m} {
		s := &mark.Mark{}
		for range 100 {
			s.Step(m)
		}
	}
}

// Rule 5: in a nil memory nothing is held, and nothing is gray.
func TestNilMemory(t *testing.T) {
	for _, c := range configs() {
		k := &bench{t: t, c: c}
		s := mark.NewMark(c, 2)
		same(t, "steps", k.ends(s), 1+2*c.Clients+c.Clients*c.Handles+c.Slots+1)
		isMark(t, s, 1, 0)
		k.over(s)
	}
}

// laden is a memory of a config with four slots, of which all are found, one is cut off, and one is gray at first.
func laden(t *testing.T, c api.Config) *mem.Mem {
	k := newBench(t, c)
	k.node(0, 1)
	k.record(1, 2, 1, 3)
	k.node(2)
	k.record(3, 0, 1, none)
	k.grays(3)
	k.holds(0, 0, 0)
	return k.m
}

// Rule 5: no step panics in a memory that isn't the config's, wherever the machine is: none, one with fewer words, or one of another config's; and none does more than one touch.
func TestOtherMemories(t *testing.T) {
	c := api.Config{Slots: 4, Arity: 4, Clients: 1, Handles: 2, Gens: 3, Stack: 2}
	memories := []func() *mem.Mem{func() *mem.Mem { return nil }}
	for n := range plan.Size(c) {
		memories = append(memories, func() *mem.Mem { return mem.Of(laden(t, c).Words()[:n]) })
	}
	for _, other := range configs() {
		memories = append(memories, func() *mem.Mem { return plan.Memory(other) })
	}
	all := (&bench{t: t, c: c, m: laden(t, c)}).ends(mark.NewMark(c, 2))
	for ahead := range all {
		for _, other := range memories {
			s, right, wrong := mark.NewMark(c, 2), laden(t, c), other()
			for range ahead {
				s.Step(right)
			}
			for range all + 20 {
				before := wrong.Touches()
				s.Step(wrong)
				if wrong.Touches() > before+1 {
					t.Fatalf("%d touches in one step", wrong.Touches()-before)
				}
			}
		}
	}
}

// Rule 5: in a memory that has fewer words than the config's plan a Mark ends all the same, if its gray slots are there with all their words.
func TestFewerWords(t *testing.T) {
	c := config(3, 1)
	for n := range plan.Size(c) {
		k := &bench{t: t, c: c, m: mem.Of(plan.Memory(c).Words()[:n])}
		s := mark.NewMark(c, 2)
		k.ends(s)
		isMark(t, s, 1, 0)
	}
	k := newBench(t, c)
	k.node(0)
	k.holds(0, 0, 0)
	k.m = mem.Of(k.m.Words()[:plan.Header(c, 1)])
	k.marks(2)
	same(t, "header", k.m.Words()[plan.Header(c, 0)], 1+8)
}
