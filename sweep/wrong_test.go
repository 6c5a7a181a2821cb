package sweep_test

import (
	"testing"

	"withy/api"
	"withy/mem"
	"withy/plan"
	"withy/sweep"
)

// P14.1: no machines of configs that aren't right; of right ones there are, in every epoch.
func TestConfigs(t *testing.T) {
	for _, c := range wrongConfigs() {
		for _, e := range epochs() {
			if sweep.NewSweep(c, e) != nil {
				t.Errorf("NewSweep(%+v, %d): a machine", c, e)
			}
		}
		if sweep.NewReclaim(c) != nil {
			t.Errorf("NewReclaim(%+v): a machine", c)
		}
	}
	for _, c := range configs() {
		for _, e := range epochs() {
			if sweep.NewSweep(c, e) == nil {
				t.Errorf("NewSweep(%+v, %d): nil", c, e)
			}
		}
		if sweep.NewReclaim(c) == nil {
			t.Errorf("NewReclaim(%+v): nil", c)
		}
	}
}

// P14.1: a nil machine's work is done, in whatever memory.
func TestNilMachines(t *testing.T) {
	k := newBench(t, config(2, 1))
	for _, s := range []mem.Machine{(*sweep.Sweep)(nil), (*sweep.Reclaim)(nil), sweep.NewSweep(api.Config{}, 0), sweep.NewReclaim(api.Config{})} {
		k.over(s)
		same(t, "Step of a nil machine without a memory", s.Step(nil), true)
	}
}

// laden is a memory of a config, with a node, a record and one in limbo, and as many generations as let one of them die.
func laden(t *testing.T, c api.Config) *mem.Mem {
	k := newBench(t, c)
	k.heads(0, api.Header{Kind: api.Node})
	k.heads(1, api.Header{Kind: api.Limbo})
	k.heads(2, api.Header{Kind: api.Record})
	k.heads(3, api.Header{Kind: api.Limbo, Gen: c.Gens - 1})
	return k.m
}

// P2.4, rule 5: machines that no maker made do no harm.
func TestUnmade(t *testing.T) {
	for _, m := range []*mem.Mem{nil, laden(t, config(4, 2))} {
		for _, s := range []mem.Machine{&sweep.Sweep{}, &sweep.Reclaim{}} {
			for range 20 {
				s.Step(m)
			}
		}
	}
}

// Rule 5: in a nil memory nothing is to be retired, and nothing is in limbo.
func TestNilMemory(t *testing.T) {
	for _, c := range configs() {
		k := &bench{t: t, c: c}
		s, r := sweep.NewSweep(c, 3), sweep.NewReclaim(c)
		same(t, "a Sweep's steps", k.ends(s), c.Slots)
		same(t, "Gone", s.Gone, 0)
		same(t, "a Reclaim's steps", k.ends(r), c.Slots)
		isReclaim(t, r, 0, 0)
		k.over(s)
		k.over(r)
	}
}

// Rule 5: no step panics in a memory that isn't the config's, wherever the machine is: none, one with fewer words, or one of another config's; and none does more than one touch.
func TestOtherMemories(t *testing.T) {
	c := api.Config{Slots: 4, Arity: 4, Clients: 1, Handles: 2, Gens: 3}
	memories := []func() *mem.Mem{func() *mem.Mem { return nil }}
	for n := range plan.Size(c) {
		memories = append(memories, func() *mem.Mem { return mem.Of(laden(t, c).Words()[:n]) })
	}
	for _, other := range configs() {
		memories = append(memories, func() *mem.Mem { return plan.Memory(other) })
	}
	makers := []func() mem.Machine{
		func() mem.Machine { return sweep.NewSweep(c, 3) },
		func() mem.Machine { return sweep.NewReclaim(c) },
	}
	for ahead := range 15 {
		for _, other := range memories {
			for _, maker := range makers {
				s, right, wrong := maker(), laden(t, c), other()
				for range ahead {
					s.Step(right)
				}
				for range 30 {
					before := wrong.Touches()
					s.Step(wrong)
					if wrong.Touches() > before+1 {
						t.Fatalf("%d touches in one step", wrong.Touches()-before)
					}
				}
			}
		}
	}
}

// Rule 5: in a memory that has fewer words than the config's plan a Sweep ends, and retires what is there; so does a Reclaim behind it.
func TestFewerWords(t *testing.T) {
	c := config(4, 3)
	for n := range plan.Size(c) {
		k := &bench{t: t, c: c, m: mem.Of(laden(t, c).Words()[:n])}
		s, r := sweep.NewSweep(c, 3), sweep.NewReclaim(c)
		k.ends(s)
		gone := 0
		for _, slot := range []int{0, 2} {
			if plan.Header(c, slot) < n {
				gone++
			}
		}
		same(t, "Gone", s.Gone, gone)
		k.ends(r)
		dead := 0
		if plan.Header(c, 3) < n {
			dead = 1
		}
		same(t, "dead ones", r.Gone, dead)
	}
}
