package client_test

import (
	"math"
	"testing"

	"withy/api"
	"withy/client"
	"withy/field"
	"withy/mem"
	"withy/plan"
)

// noNumbers are numbers of which there is no thing, where there are n, counted from 0.
func noNumbers(n int) []int {
	return []int{math.MinInt, math.MinInt + 1, -1 << 32, -64, -2, -1, n, n + 1, 64, 65, 1 << 16, 1 << 32, 1<<32 + 1, 1 << 62, math.MaxInt - 1, math.MaxInt}
}

// P21.1: no clients of configs that aren't right.
func TestWrongConfigs(t *testing.T) {
	for _, c := range wrongConfigs() {
		for _, who := range []int{-1, 0, 1, 7, 8} {
			if client.New(c, who, field.NewBook()) != nil {
				t.Errorf("New(%+v, %d, ..): a client", c, who)
			}
		}
	}
}

// P21.1: no clients that there are not; all others there are.
func TestWrongClients(t *testing.T) {
	for _, c := range configs() {
		for _, who := range noNumbers(c.Clients) {
			if client.New(c, who, field.NewBook()) != nil {
				t.Errorf("New(%+v, %d, ..): a client", c, who)
			}
		}
		for who := range c.Clients {
			if client.New(c, who, field.NewBook()) == nil {
				t.Errorf("New(%+v, %d, ..): nil", c, who)
			}
		}
	}
}

// P21.1: no clients without a book.
func TestWithoutABook(t *testing.T) {
	for _, c := range configs() {
		if client.New(c, 0, nil) != nil {
			t.Errorf("New(%+v, 0, nil): a client", c)
		}
	}
}

// calls are one of each kind, by some handles, and of none.
func calls() []api.Call {
	var l []api.Call
	for kind := -1; kind <= 12; kind++ {
		for _, h := range []uint64{0, handle(0, 0, 1), handle(0, 255, 1)} {
			l = append(l, api.Call{Kind: kind, H: h, X: h, Y: h}, api.Call{Kind: kind, N: -1, H: h})
		}
	}
	return l
}

// P21.1: a nil client begins nothing, and tells nothing, in whatever memory.
func TestNilClient(t *testing.T) {
	for _, k := range []*client.Client{nil, client.New(api.Config{}, 0, field.NewBook()), client.New(least(), 1, field.NewBook()), client.New(least(), 0, nil)} {
		for _, call := range calls() {
			same(t, "Begin", k.Begin(call), false)
			same(t, "Busy", k.Busy(), false)
			m := plan.Memory(least())
			same(t, "Step", k.Step(m), true)
			same(t, "touches", m.Touches(), 0)
			same(t, "Step without a memory", k.Step(nil), true)
			same(t, "Answer", k.Answer(), ok)
			point, behind := k.Point()
			same(t, "Point", point, 0)
			same(t, "behind", behind, false)
			same(t, "Holds", k.Holds(call.H), none)
		}
	}
}

// Rule 5: a client that no maker made does no harm.
func TestUnmade(t *testing.T) {
	for _, m := range []*mem.Mem{nil, plan.Memory(greatest())} {
		for _, call := range calls() {
			k := &client.Client{}
			k.Begin(call)
			for range 20 {
				k.Step(m)
			}
			k.Begin(call)
			k.Busy()
			k.Answer()
			k.Point()
			k.Holds(call.H)
		}
	}
}

// Rule 5: in a nil memory there are no slots, and no fields; each call that doesn't wait for a swap ends.
func TestNilMemory(t *testing.T) {
	c := config(4, 2, 1, 3)
	k := newBench(t, c)
	h := k.gets(0, makes(2), 0)
	k.m = nil
	for _, x := range []struct {
		call api.Call
		a    api.Answer
	}{
		{makes(1), only(api.ErrFull)}, {load(h, 0), only(api.ErrField)}, {link(h, 0, h), only(api.ErrField)},
		{opens(h), gives(handle(0, 255, 1))}, {next(handle(0, 255, 1)), gives(handle(0, 1, 1))}, {next(handle(0, 255, 1)), only(api.ErrDone)},
		{closes(handle(0, 255, 1)), ok}, {compare(h, h), yes}, {release(h), ok}, {release(h), only(api.ErrHandle)},
	} {
		same(t, "Begin", k.k[0].Begin(x.call), true)
		for n := 0; !k.k[0].Step(nil); n++ {
			if n > 50 {
				t.Fatalf("%+v doesn't end", x.call)
			}
		}
		same(t, "Answer", k.k[0].Answer(), x.a)
	}
}

// P21.3: a field beyond what a node's body has, though its header says so: ErrField.
func TestOddArity(t *testing.T) {
	for _, c := range []api.Config{config(4, 0, 1, 2), config(4, 8, 1, 2)} {
		k := newBench(t, c)
		h := k.gets(0, makes(0), 0)
		k.m.Store(k.header(0), 15<<5+api.Node)
		for i := range 16 {
			call := load(h, i)
			if i < bodySize(c) {
				k.is(0, call, ok)
				continue
			}
			k.is(0, call, only(api.ErrField))
			k.is(0, link(h, i, h), only(api.ErrField))
			k.is(0, swap(h, i, h, 0), only(api.ErrField))
		}
		for _, w := range []uint64{0, 15<<5 + 5, 1<<9 + 2<<5 + api.Node, math.MaxUint64} {
			k.m.Store(k.header(0), w)
			k.is(0, load(h, 0), only(api.ErrField))
		}
	}
}

// acts are calls of a client that holds two nodes and has a walk, or is about to.
func acts(walks bool) []api.Call {
	h, x, w := handle(0, 0, 1), handle(0, 1, 1), handle(0, 255, 1)
	if walks {
		return []api.Call{next(w), closes(w)}
	}
	return []api.Call{makes(2), load(h, 0), link(h, 1, x), unlink(h, 0), swap(h, 0, x, x), swap(h, 1, h, 0), release(x), opens(h)}
}

// acting is a client of a memory, that begins a call.
func acting(t *testing.T, c api.Config, call api.Call, walks bool) *bench {
	k := newBench(t, c)
	k.gets(0, makes(2), 0)
	k.gets(0, makes(2), 1)
	k.is(0, link(handle(0, 0, 1), 0, handle(0, 1, 1)), ok)
	if walks {
		k.does(0, opens(handle(0, 0, 1)))
	}
	k.epoch(5)
	k.begins(0, call)
	return k
}

// Rule 5: no step panics in a memory that isn't the config's, wherever the call is: none, one with fewer words, one of another config's, or of odd words; and none does more than one touch.
func TestOtherMemories(t *testing.T) {
	c := config(6, 3, 2, 4)
	memories := []func() *mem.Mem{func() *mem.Mem { return nil }}
	for _, n := range []int{0, 1, 2, 3, 4, 6, 10, 17, 20, 22, 25, 30, 40} {
		memories = append(memories, func() *mem.Mem { return mem.Of(plan.Memory(c).Words()[:n]) })
	}
	for _, other := range configs() {
		memories = append(memories, func() *mem.Mem { return plan.Memory(other) })
	}
	for _, w := range []uint64{1, 2, 3, 7, 15<<5 + api.Node, math.MaxUint64} {
		memories = append(memories, func() *mem.Mem {
			words := make([]uint64, plan.Size(c))
			for i := range words {
				words[i] = w
			}
			return mem.Of(words)
		})
	}
	for _, walks := range []bool{false, true} {
		for _, call := range acts(walks) {
			for ahead := range 30 {
				for _, other := range memories {
					k, wrong := acting(t, c, call, walks), other()
					for range ahead {
						k.k[0].Step(k.m)
					}
					for range 60 {
						before := wrong.Touches()
						k.k[0].Step(wrong)
						if wrong.Touches() > before+1 {
							t.Fatalf("%d touches in one step", wrong.Touches()-before)
						}
					}
				}
			}
		}
	}
}
