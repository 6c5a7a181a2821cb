package arena_test

import (
	"math"
	"testing"

	"withy/api"
	"withy/arena"
	"withy/mem"
	"withy/plan"
)

// noNumbers are numbers of which there is no thing, where there are n, counted from 0.
func noNumbers(n int) []int {
	return []int{math.MinInt, math.MinInt + 1, -1 << 32, -64, -2, -1, n, n + 1, 64, 65, 1 << 16, 1 << 32, 1<<32 + 1, 1 << 62, math.MaxInt - 1, math.MaxInt}
}

// P12.1, P12.2: no machines, and no body, of configs that aren't right.
func TestWrongConfigs(t *testing.T) {
	for _, c := range wrongConfigs() {
		for _, kind := range []int{api.Node, api.Record} {
			for _, body := range [][]uint64{nil, {1}} {
				if arena.NewMake(c, kind, 0, 0, body) != nil {
					t.Errorf("NewMake(%+v, %d, 0, 0, %v): a machine", c, kind, body)
				}
			}
		}
		for _, n := range []int{-1, 0, 1, 2, 63, 64} {
			if arena.NewFree(c, n) != nil {
				t.Errorf("NewFree(%+v, %d): a machine", c, n)
			}
			for _, size := range []int{0, 1, 4, plan.Size(config(3, 1)), plan.Size(greatest()), 1000} {
				if got := arena.Body(c, make([]uint64, size), n); len(got) != 0 {
					t.Errorf("Body(%+v, %d words, %d): %v", c, size, n, got)
				}
			}
		}
	}
}

// P12.1: no machine of a kind that is neither Node nor Record.
func TestWrongKinds(t *testing.T) {
	for _, c := range configs() {
		for _, kind := range []int{api.Free, api.Limbo, api.Dead, 5, 6, 7, 8, 9, 10, -1, -7, 1<<32 + api.Node, 1<<62 + api.Record, math.MinInt, math.MinInt + api.Node, math.MaxInt} {
			for arity := range c.Arity + 1 {
				if arena.NewMake(c, kind, arity, 0, nil) != nil {
					t.Errorf("NewMake(%+v, %d, %d, 0, nil): a machine", c, kind, arity)
				}
			}
		}
	}
}

// P12.1: an arity is from 0 to the config's, and a Record's is 0.
func TestArities(t *testing.T) {
	for _, c := range configs() {
		for arity := range c.Arity + 1 {
			if arena.NewMake(c, api.Node, arity, 0, nil) == nil {
				t.Errorf("NewMake(%+v, Node, %d, 0, nil): nil", c, arity)
			}
			if a := arena.NewMake(c, api.Record, arity, 0, nil); (a != nil) != (arity == 0) {
				t.Errorf("NewMake(%+v, Record, %d, 0, nil): %v", c, arity, a)
			}
		}
		for _, arity := range noNumbers(c.Arity + 1) {
			for _, kind := range []int{api.Node, api.Record} {
				if arena.NewMake(c, kind, arity, 0, nil) != nil {
					t.Errorf("NewMake(%+v, %d, %d, 0, nil): a machine", c, kind, arity)
				}
			}
		}
		for _, arity := range []int{1, 2, 3, 8} {
			if arena.NewMake(c, api.Record, arity, 0, nil) != nil {
				t.Errorf("NewMake(%+v, Record, %d, 0, nil): a machine", c, arity)
			}
		}
	}
}

// P12.1: a body has at most as many words as a slot's, however few the arity's are.
func TestBodiesOfMakes(t *testing.T) {
	for _, c := range configs() {
		for _, kind := range []int{api.Node, api.Record} {
			for n := range bodySize(c) + 1 {
				a := arena.NewMake(c, kind, 0, 0, make([]uint64, n))
				if a == nil {
					t.Fatalf("NewMake(%+v, %d, 0, 0, %d words): nil", c, kind, n)
				}
				isMake(t, a, none, false)
			}
			for _, n := range []int{1, 2, 10, 1000, api.MaxWords + 1} {
				if arena.NewMake(c, kind, 0, 0, make([]uint64, bodySize(c)+n)) != nil {
					t.Errorf("NewMake(%+v, %d, 0, 0, %d words too many): a machine", c, kind, n)
				}
			}
			if arena.NewMake(c, kind, 0, 0, make([]uint64, 1, 1000)) == nil {
				t.Errorf("NewMake(%+v, %d, 0, 0, a word with spare room): nil", c, kind)
			}
		}
	}
}

// P12.1: every epoch will do.
func TestEpochsOfMakes(t *testing.T) {
	for _, e := range epochs() {
		if arena.NewMake(config(1, 1), api.Node, 0, e, nil) == nil {
			t.Errorf("NewMake in the epoch %d: nil", e)
		}
	}
}

// P12.2: no machine, and no body, of slots that there are not; of the others there are.
func TestWrongSlots(t *testing.T) {
	for _, c := range configs() {
		for _, slot := range noNumbers(c.Slots) {
			if arena.NewFree(c, slot) != nil {
				t.Errorf("NewFree(%+v, %d): a machine", c, slot)
			}
			if got := arena.Body(c, numbered(c), slot); len(got) != 0 {
				t.Errorf("Body(%+v, .., %d): %v", c, slot, got)
			}
		}
		for slot := range c.Slots {
			f := arena.NewFree(c, slot)
			if f == nil {
				t.Fatalf("NewFree(%+v, %d): nil", c, slot)
			}
			isFree(t, f, false, false)
		}
	}
}

// P12.2: no body out of words that are fewer or more than the plan's.
func TestBodyOfWrongWords(t *testing.T) {
	for _, c := range configs() {
		size := plan.Size(c)
		words := append(numbered(c), 1, 1, 1)
		for _, slot := range []int{0, c.Slots - 1} {
			for _, n := range []int{0, 1, 3, 4, 5, plan.Body(c, 0, 0), plan.Body(c, 0, 0) + bodySize(c), size - 1, size + 1, size + 2, size + 3} {
				if n == size {
					continue
				}
				if got := arena.Body(c, words[:n], slot); len(got) != 0 {
					t.Errorf("Body(%+v, %d words, %d): %v", c, n, slot, got)
				}
			}
			if got := arena.Body(c, nil, slot); len(got) != 0 {
				t.Errorf("Body(%+v, no words, %d): %v", c, slot, got)
			}
			if got := arena.Body(c, words[:size], slot); len(got) != bodySize(c) {
				t.Errorf("Body(%+v, as many words, %d): %v", c, slot, got)
			}
		}
	}
}

// P12.1: a nil machine's work is done, in whatever memory.
func TestNilMachines(t *testing.T) {
	k := newBench(t, config(2, 1))
	for _, s := range []mem.Machine{
		(*arena.Make)(nil), (*arena.Free)(nil),
		arena.NewMake(api.Config{}, api.Node, 0, 0, nil), arena.NewMake(k.c, api.Free, 0, 0, nil), arena.NewMake(k.c, api.Node, 1, 0, nil), arena.NewMake(k.c, api.Node, 0, 0, make([]uint64, 4)),
		arena.NewFree(api.Config{}, 0), arena.NewFree(k.c, 2), arena.NewFree(k.c, -1),
	} {
		k.over(s)
		same(t, "Step of a nil machine without a memory", s.Step(nil), true)
	}
}

// P2.4, rule 5: machines that no maker made do no harm.
func TestUnmade(t *testing.T) {
	for _, m := range []*mem.Mem{nil, plan.Memory(config(3, 1))} {
		for _, s := range []mem.Machine{&arena.Make{}, &arena.Free{}} {
			for range 20 {
				s.Step(m)
			}
		}
	}
}

// Rule 5: in a nil memory nothing is to be had, and nothing is in limbo.
func TestNilMemory(t *testing.T) {
	c := config(2, 2)
	k := &bench{t: t, c: c}
	a, f := arena.NewMake(c, api.Node, 0, 0, nil), arena.NewFree(c, 1)
	same(t, "a Make's steps", k.ends(a), 1)
	isMake(t, a, none, true)
	same(t, "a Free's steps", k.ends(f), 1)
	isFree(t, f, false, false)
	k.over(a)
	k.over(f)
}

// limboMemory is a memory of a config, with free slots and one in limbo, the last.
func limboMemory(t *testing.T, c api.Config) *mem.Mem {
	k := newBench(t, c)
	k.lists(0, 0, 1)
	k.heads(c.Slots-1, api.Header{Kind: api.Limbo})
	return k.m
}

// Rule 5: no step panics in a memory that isn't the config's, wherever the machine is: none, one with fewer words, or one of another config's; and none does more than one touch.
func TestOtherMemories(t *testing.T) {
	c := api.Config{Slots: 4, Arity: 4, Clients: 1, Handles: 2, Gens: 3}
	memories := []func() *mem.Mem{func() *mem.Mem { return nil }}
	for n := range plan.Size(c) {
		memories = append(memories, func() *mem.Mem { return mem.Of(limboMemory(t, c).Words()[:n]) })
	}
	for _, other := range configs() {
		memories = append(memories, func() *mem.Mem { return plan.Memory(other) })
	}
	makers := []func() mem.Machine{
		func() mem.Machine { return arena.NewMake(c, api.Node, 4, 2, []uint64{1, 2}) },
		func() mem.Machine { return arena.NewMake(c, api.Record, 0, 0, nil) },
		func() mem.Machine { return arena.NewFree(c, 0) },
		func() mem.Machine { return arena.NewFree(c, 3) },
	}
	for ahead := range 12 {
		for _, other := range memories {
			for _, maker := range makers {
				s, right, wrong := maker(), limboMemory(t, c), other()
				for range ahead {
					s.Step(right)
				}
				for range 20 {
					before := wrong.Touches()
					s.Step(wrong)
					if wrong.Touches() > before+1 {
						t.Fatalf("%d touches in one step", wrong.Touches()-before)
					}
				}
			}
		}
	}
}

// Rule 5: a memory that has fewer words than the config's plan: a Make ends in it, and without a top it is Full.
func TestMakeInFewerWords(t *testing.T) {
	c := config(3, 1)
	for n := range plan.Size(c) {
		k := &bench{t: t, c: c, m: mem.Of(plan.Memory(c).Words()[:n])}
		a := arena.NewMake(c, api.Node, 0, 0, []uint64{1})
		k.ends(a)
		if n <= plan.Top {
			isMake(t, a, none, true)
		} else {
			isMake(t, a, 0, false)
		}
	}
}
