package collect_test

import (
	"testing"

	"withy/api"
	"withy/collect"
	"withy/mem"
	"withy/plan"
)

// P15.1, P15.2: no machine of a config that isn't right, whose Bound is 0; of right ones there is one, and a Bound.
func TestConfigs(t *testing.T) {
	for _, c := range wrongConfigs() {
		if collect.NewCollect(c) != nil {
			t.Errorf("NewCollect(%+v): a machine", c)
		}
		if n := collect.Bound(c); n != 0 {
			t.Errorf("Bound(%+v): %d", c, n)
		}
	}
	for _, c := range configs() {
		if collect.NewCollect(c) == nil {
			t.Errorf("NewCollect(%+v): nil", c)
		}
		if n := collect.Bound(c); n < 62 || n > 8442 {
			t.Errorf("Bound(%+v): %d", c, n)
		}
	}
}

// P15.1: a nil one's work is done, in whatever memory: it touches nothing.
func TestNil(t *testing.T) {
	m := row(t, config(3, 1)).m
	before := m.Touches()
	for _, k := range []*collect.Collect{nil, collect.NewCollect(api.Config{})} {
		for range 20 {
			same(t, "Step of a nil one", k.Step(m), true)
			same(t, "Step of a nil one without a memory", k.Step(nil), true)
		}
	}
	same(t, "touches", m.Touches(), before)
}

// Rule 5: one that no maker made does no harm.
func TestUnmade(t *testing.T) {
	for _, m := range []*mem.Mem{nil, row(t, config(3, 1)).m} {
		k := &collect.Collect{}
		for range 100 {
			k.Step(m)
		}
	}
}

// Rule 5, P15.1: in a nil memory no step panics, and the work isn't done; the epoch there can't become another one.
func TestNilMemory(t *testing.T) {
	for _, c := range configs() {
		k := collect.NewCollect(c)
		for range 3 * collect.Bound(c) {
			same(t, "Step", k.Step(nil), false)
		}
		same(t, "E", k.E, 0)
		same(t, "Cycles", k.Cycles, 0)
	}
}

// wrongly takes steps in a memory that isn't the config's: each does one touch at most, and none is the last one.
func wrongly(t *testing.T, k *collect.Collect, m *mem.Mem, steps int) {
	t.Helper()
	for range steps {
		before := m.Touches()
		same(t, "Step", k.Step(m), false)
		if m.Touches() > before+1 {
			t.Fatalf("%d touches in one step", m.Touches()-before)
		}
	}
}

// Rule 5: no step panics in a memory that isn't the config's, wherever the machine is: none, one with fewer words, or one of another config's.
func TestOtherMemories(t *testing.T) {
	c := api.Config{Slots: 4, Arity: 4, Clients: 2, Handles: 2, Gens: 3, Stack: 2}
	memories := []func() *mem.Mem{func() *mem.Mem { return nil }}
	for n := range plan.Size(c) {
		memories = append(memories, func() *mem.Mem { return mem.Of(row(t, c).m.Words()[:n]) })
	}
	for _, other := range configs() {
		memories = append(memories, func() *mem.Mem { return plan.Memory(other) })
	}
	all := row(t, c).till(9)
	for ahead := 0; ahead < all; ahead += 3 {
		for _, other := range memories {
			b := row(t, c)
			for range ahead {
				b.step()
			}
			wrongly(t, b.k, other(), 100)
		}
	}
}

// Rule 5: behind steps in other memories it goes on in its own, and no step panics there either.
func TestBackFromOtherMemories(t *testing.T) {
	c := config(4, 2)
	all := row(t, c).till(9)
	for ahead := range all {
		for _, other := range []*mem.Mem{nil, mem.New(0), mem.New(3), plan.Memory(greatest())} {
			b := row(t, c)
			for range ahead {
				b.step()
			}
			wrongly(t, b.k, other, 20)
			wrongly(t, b.k, b.m, 100)
		}
	}
}

// Rule 5: in a memory that has fewer words than the config's plan, but those ahead of the slots, it goes from cycle to cycle all the same.
func TestFewerWords(t *testing.T) {
	c := config(3, 1)
	for n := plan.Header(c, 0); n < plan.Size(c); n++ {
		m := mem.Of(plan.Memory(c).Words()[:n])
		k := collect.NewCollect(c)
		wrongly(t, k, m, 5*collect.Bound(c))
		same(t, "Cycles", k.Cycles >= 5, true)
		same(t, "epoch", m.Load(plan.Epoch), k.E)
	}
}

// P15.1: its work is never done: through many cycles each step is one touch, and says so.
func TestNeverDone(t *testing.T) {
	for _, c := range []api.Config{least(), config(3, 0), config(3, 64)} {
		b := row(t, c)
		for range 50000 {
			b.step()
		}
		if b.k.Cycles < 50000/collect.Bound(c) {
			t.Errorf("%+v: Cycles %d", c, b.k.Cycles)
		}
	}
}
