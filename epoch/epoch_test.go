package epoch_test

import (
	"math"
	"slices"
	"testing"

	"withy/api"
	"withy/epoch"
	"withy/mem"
	"withy/plan"
)

// config is one with so many clients, and the least of all else.
func config(clients int) api.Config {
	return api.Config{Slots: 1, Clients: clients, Handles: 1, Gens: 1}
}

// configs are right ones, from one client to the most.
func configs() []api.Config {
	return []api.Config{
		config(1), config(2), config(3), config(7), config(8),
		{Slots: 5, Arity: 4, Clients: 2, Handles: 3, Gens: 7, Stack: 9},
		{Slots: 64, Arity: 8, Clients: 8, Handles: 16, Gens: 1 << 20, Stack: 64},
	}
}

// wrongConfigs are configs in which one number is beyond its lowest or highest.
func wrongConfigs() []api.Config {
	l := []api.Config{{}}
	for _, c := range []api.Config{config(3), {Slots: 64, Arity: 8, Clients: 8, Handles: 16, Gens: 1 << 20, Stack: 64}} {
		for _, n := range []struct {
			at        *int
			low, high int
		}{{&c.Slots, 1, 64}, {&c.Arity, 0, 8}, {&c.Clients, 1, 8}, {&c.Handles, 1, 16}, {&c.Gens, 1, 1 << 20}, {&c.Stack, 0, 64}} {
			was := *n.at
			for _, v := range []int{n.low - 1, n.high + 1, math.MinInt, math.MaxInt} {
				*n.at = v
				l = append(l, c)
			}
			*n.at = was
		}
	}
	return l
}

// epochs are small and great ones, up to the last that has a pin.
func epochs() []uint64 {
	return []uint64{0, 1, 2, 3, 4, 127, 128, 1<<15 - 1, 1 << 15, 1<<16 - 1, 1<<31 - 1, 1 << 31, 1<<32 - 1, 1 << 32, 1<<53 + 1, 1<<62 - 1, 1 << 62, 1<<63 - 2, 1<<63 - 1}
}

// pinOf is the pin of an epoch.
func pinOf(e uint64) uint64 {
	return e<<1 | 1
}

// memory is one of a config, in an epoch, with these pins of the first clients; the others' are 0.
func memory(c api.Config, e uint64, pins ...uint64) *mem.Mem {
	words := plan.Memory(c).Words()
	words[plan.Epoch] = e
	for who, pin := range pins {
		words[plan.Pin(c, who)] = pin
	}
	return mem.Of(words)
}

// allPins are as many of a pin as there are clients.
func allPins(c api.Config, pin uint64) []uint64 {
	return slices.Repeat([]uint64{pin}, c.Clients)
}

// step has a machine take one step, and holds what it answers, and the one touch it does, against what it should.
func step(t *testing.T, k mem.Machine, m *mem.Mem, done bool, touch api.Touch) {
	t.Helper()
	before := m.Touches()
	if got := k.Step(m); got != done {
		t.Fatalf("Step: %v, want %v (last touch %+v)", got, done, m.Last())
	}
	if m.Touches() != before+1 || m.Last() != touch {
		t.Fatalf("%d touches, the last %+v, want one, %+v", m.Touches()-before, m.Last(), touch)
	}
}

// ends takes steps till the work is done, and is how many.
func ends(t *testing.T, k mem.Machine, m *mem.Mem) int {
	t.Helper()
	for n := range 100 {
		if k.Step(m) {
			return n + 1
		}
	}
	t.Fatal("the work isn't done behind 100 steps")
	return 0
}

// over asks a machine whose work is done for more steps: nothing is done any more.
func over(t *testing.T, k mem.Machine, m *mem.Mem) {
	t.Helper()
	touches, words := m.Touches(), m.Words()
	for range 5 {
		if !k.Step(m) {
			t.Fatal("Step behind the last one: false")
		}
	}
	if m.Touches() != touches || !slices.Equal(m.Words(), words) {
		t.Fatalf("steps behind the last one: %d touches", m.Touches()-touches)
	}
}

// is holds a machine's E against what it should be.
func is(t *testing.T, e, want uint64) {
	t.Helper()
	if e != want {
		t.Fatalf("E is %d, want %d", e, want)
	}
}

// load is the touch of a word that is loaded.
func load(at int, w uint64) api.Touch {
	return api.Touch{Kind: api.TLoad, At: at, Was: w, Now: w}
}

// store is the touch of a pin that is stored.
func store(at int, was, now uint64) api.Touch {
	return api.Touch{Kind: api.TStore, At: at, Was: was, Now: now}
}

// swap is the touch of an epoch that is swapped; one that isn't done leaves it as it was.
func swap(was, now uint64) api.Touch {
	return api.Touch{Kind: api.TSwap, At: plan.Epoch, Was: was, Now: now}
}

// P8.1: the document's example, touch by touch.
func TestExample(t *testing.T) {
	c := config(1)
	m := plan.Memory(c)
	pin := plan.Pin(c, 0)
	p, a, b := epoch.NewPin(c, 0), epoch.NewAdvance(c), epoch.NewAdvance(c)
	step(t, p, m, false, load(plan.Epoch, 0))
	step(t, p, m, false, store(pin, 0, 1))
	step(t, p, m, true, load(plan.Epoch, 0))
	is(t, p.E, 0)
	step(t, a, m, false, load(plan.Epoch, 0))
	step(t, a, m, false, load(pin, 1))
	is(t, a.E, 0)
	step(t, a, m, true, swap(0, 1))
	is(t, a.E, 1)
	step(t, b, m, false, load(plan.Epoch, 1))
	for range 50 {
		step(t, b, m, false, load(pin, 1))
		is(t, b.E, 0)
	}
	step(t, epoch.NewLeave(c, 0), m, true, store(pin, 1, 0))
	step(t, b, m, false, load(pin, 0))
	step(t, b, m, true, swap(1, 2))
	is(t, b.E, 2)
	over(t, p, m)
	over(t, a, m)
	over(t, b, m)
	is(t, p.E, 0)
	is(t, a.E, 1)
	is(t, b.E, 2)
}

// P8.1: one Pin alone, from its first step to its last, of each client, in small and great epochs, whatever its pin was.
func TestPinAlone(t *testing.T) {
	for _, c := range configs() {
		for who := range c.Clients {
			for _, e := range epochs() {
				for _, was := range []uint64{0, 1, pinOf(e), pinOf(e) - 2, 2 * e, math.MaxUint64} {
					at := plan.Pin(c, who)
					m := memory(c, e, allPins(c, was)...)
					p := epoch.NewPin(c, who)
					is(t, p.E, 0)
					step(t, p, m, false, load(plan.Epoch, e))
					is(t, p.E, 0)
					step(t, p, m, false, store(at, was, pinOf(e)))
					is(t, p.E, 0)
					step(t, p, m, true, load(plan.Epoch, e))
					is(t, p.E, e)
					over(t, p, m)
					is(t, p.E, e)
				}
			}
		}
	}
}

// P8.1: an epoch that moves between the two loads, ahead of the store and behind it, has the pin stored for the one that was loaded last, as often as it moves; what it was at first counts no more then.
func TestPinOfAnEpochThatMoves(t *testing.T) {
	c := config(3)
	for _, moves := range [][]uint64{
		{0, 1}, {0, 1, 2}, {5, 6}, {5, 6, 7, 8, 9}, {5, 6, 5}, {5, 6, 5, 6, 5}, {5, 4}, {7, 0},
		{1, 1<<32 + 1}, {0, 1 << 63}, {1<<31 - 1, 1 << 31}, {1<<63 - 2, 1<<63 - 1}, {1 << 62, 0, 1 << 62},
	} {
		for _, ahead := range []bool{true, false} {
			for who := range 3 {
				m := memory(c, moves[0])
				p := epoch.NewPin(c, who)
				step(t, p, m, false, load(plan.Epoch, moves[0]))
				pin := uint64(0)
				for i, e := range moves {
					next := moves[min(i+1, len(moves)-1)]
					if ahead {
						m.Store(plan.Epoch, next)
					}
					step(t, p, m, false, store(plan.Pin(c, who), pin, pinOf(e)))
					pin = pinOf(e)
					if !ahead {
						m.Store(plan.Epoch, next)
					}
					last := i == len(moves)-1
					step(t, p, m, last, load(plan.Epoch, next))
					if !last {
						is(t, p.E, 0)
					}
				}
				is(t, p.E, moves[len(moves)-1])
				over(t, p, m)
			}
		}
	}
}

// P8.1: what counts is what the second load tells: an epoch that moved and is back is the same.
func TestPinOfAnEpochThatIsBack(t *testing.T) {
	c := config(1)
	m := memory(c, 5)
	p := epoch.NewPin(c, 0)
	step(t, p, m, false, load(plan.Epoch, 5))
	m.Store(plan.Epoch, 6)
	step(t, p, m, false, store(plan.Pin(c, 0), 0, 11))
	m.Store(plan.Epoch, 5)
	step(t, p, m, true, load(plan.Epoch, 5))
	is(t, p.E, 5)
}

// P8.1: whose pin was changed by others meanwhile is pinned all the same: the pin is never loaded.
func TestPinLooksAtNoPin(t *testing.T) {
	c := config(2)
	m := memory(c, 5)
	p := epoch.NewPin(c, 1)
	step(t, p, m, false, load(plan.Epoch, 5))
	m.Store(plan.Pin(c, 1), 77)
	step(t, p, m, false, store(plan.Pin(c, 1), 77, 11))
	m.Store(plan.Pin(c, 1), 0)
	step(t, p, m, true, load(plan.Epoch, 5))
}

// P8.1: one Leave alone, of each client, whatever its pin was and whatever the epoch is: one step.
func TestLeaveAlone(t *testing.T) {
	for _, c := range configs() {
		for who := range c.Clients {
			for _, was := range []uint64{0, 1, 2, 3, 1<<32 + 1, math.MaxUint64} {
				m := memory(c, 9, allPins(c, was)...)
				l := epoch.NewLeave(c, who)
				step(t, l, m, true, store(plan.Pin(c, who), was, 0))
				over(t, l, m)
				m.Store(plan.Pin(c, who), 19)
				over(t, l, m)
			}
		}
	}
}

// P8.1, P8.2: one Advance alone, from its first step to its last, with nobody pinned, and with some and all pinned in the epoch: as many steps as there are clients, and two.
func TestAdvanceAlone(t *testing.T) {
	for _, c := range configs() {
		for _, e := range epochs() {
			for pinned := range 1 << c.Clients {
				pins := allPins(c, 0)
				for who := range pins {
					if pinned>>who&1 == 1 {
						pins[who] = pinOf(e)
					}
				}
				m := memory(c, e, pins...)
				a := epoch.NewAdvance(c)
				step(t, a, m, false, load(plan.Epoch, e))
				for who, pin := range pins {
					is(t, a.E, 0)
					step(t, a, m, false, load(plan.Pin(c, who), pin))
				}
				is(t, a.E, 0)
				step(t, a, m, true, swap(e, e+1))
				is(t, a.E, e+1)
				over(t, a, m)
				is(t, a.E, e+1)
			}
		}
	}
}

// P8.2: one after the other, with nobody pinned: each is done in as many steps as there are clients, and two, and the epoch is one more each time.
func TestOneAdvanceAfterTheOther(t *testing.T) {
	for _, c := range configs() {
		m := plan.Memory(c)
		for e := range uint64(40) {
			a := epoch.NewAdvance(c)
			if n := ends(t, a, m); n != c.Clients+2 || m.Touches() != n*int(e+1) {
				t.Fatalf("%d clients: %d steps, %d touches", c.Clients, n, m.Touches())
			}
			is(t, a.E, e+1)
			is(t, m.Words()[plan.Epoch], e+1)
		}
	}
}

// otherPins are pins that are neither 0 nor the epoch's, some of them unlike it by one bit only, or even.
func otherPins(e uint64) []uint64 {
	l := []uint64{1, 2, 3, e, 2 * e, pinOf(e) - 2, pinOf(e) + 1, pinOf(e) + 2, math.MaxUint64, math.MaxUint64 - 1}
	for n := range 64 {
		l = append(l, pinOf(e)^1<<n)
	}
	return slices.DeleteFunc(l, func(w uint64) bool { return w == 0 || w == pinOf(e) })
}

// P8.1: an Advance waits for a pin of another epoch, however long, at that client, till it is 0 or the epoch's; those ahead of it are loaded no more.
func TestAdvanceWaits(t *testing.T) {
	for _, c := range []api.Config{config(1), config(3), config(8)} {
		for who := range c.Clients {
			for _, e := range []uint64{0, 1, 5, 1 << 31, 1<<63 - 1} {
				for _, now := range []uint64{0, pinOf(e)} {
					m := memory(c, e)
					at := plan.Pin(c, who)
					a := epoch.NewAdvance(c)
					step(t, a, m, false, load(plan.Epoch, e))
					for ahead := range who {
						step(t, a, m, false, load(plan.Pin(c, ahead), 0))
						m.Store(plan.Pin(c, ahead), pinOf(e)+2)
					}
					for _, pin := range otherPins(e) {
						m.Store(at, pin)
						step(t, a, m, false, load(at, pin))
						step(t, a, m, false, load(at, pin))
					}
					m.Store(at, now)
					step(t, a, m, false, load(at, now))
					for behind := who + 1; behind < c.Clients; behind++ {
						step(t, a, m, false, load(plan.Pin(c, behind), 0))
					}
					is(t, a.E, 0)
					step(t, a, m, true, swap(e, e+1))
					is(t, a.E, e+1)
				}
			}
		}
	}
}

// P8.1: a long wait: thousands of loads of the pin, and nothing else.
func TestAdvanceWaitsForLong(t *testing.T) {
	c := config(2)
	m := memory(c, 7, 0, pinOf(6))
	a := epoch.NewAdvance(c)
	step(t, a, m, false, load(plan.Epoch, 7))
	step(t, a, m, false, load(plan.Pin(c, 0), 0))
	before := m.Words()
	for range 5000 {
		step(t, a, m, false, load(plan.Pin(c, 1), pinOf(6)))
	}
	if !slices.Equal(m.Words(), before) {
		t.Error("words were changed by waiting")
	}
	ends(t, epoch.NewLeave(c, 1), m)
	if n := ends(t, a, m); n != 2 {
		t.Errorf("%d steps behind the Leave, want 2", n)
	}
	is(t, a.E, 8)
}

// P8.1: an Advance whose epoch moved meanwhile, wherever it was then: its swap isn't done, and it begins anew, with the epoch and with the first client; so again and again. Pins of the epoch before it waits for then.
func TestAdvanceBeginsAnew(t *testing.T) {
	for _, c := range []api.Config{config(1), config(3), config(8)} {
		for moved := range c.Clients + 1 {
			m := memory(c, 4, allPins(c, pinOf(4))...)
			a := epoch.NewAdvance(c)
			e := uint64(4)
			for _, next := range []uint64{5, 6, 1 << 40, 3} {
				step(t, a, m, false, load(plan.Epoch, e))
				for who := range c.Clients {
					if who == moved {
						m.Store(plan.Epoch, next)
					}
					step(t, a, m, false, load(plan.Pin(c, who), pinOf(e)))
				}
				if moved == c.Clients {
					m.Store(plan.Epoch, next)
				}
				step(t, a, m, false, swap(next, next))
				is(t, a.E, 0)
				for who := range c.Clients {
					m.Store(plan.Pin(c, who), pinOf(next))
				}
				e = next
			}
			m.Store(plan.Pin(c, 0), pinOf(2))
			step(t, a, m, false, load(plan.Epoch, 3))
			step(t, a, m, false, load(plan.Pin(c, 0), pinOf(2)))
			step(t, a, m, false, load(plan.Pin(c, 0), pinOf(2)))
			m.Store(plan.Pin(c, 0), 0)
			ends(t, a, m)
			is(t, a.E, 4)
		}
	}
}

// P8.1: two Advances in turn, step by step: the first one is done, the other one begins anew and is done with the epoch behind.
func TestTwoAdvancesInTurn(t *testing.T) {
	c := config(1)
	m := plan.Memory(c)
	pin := plan.Pin(c, 0)
	a, b := epoch.NewAdvance(c), epoch.NewAdvance(c)
	step(t, a, m, false, load(plan.Epoch, 0))
	step(t, b, m, false, load(plan.Epoch, 0))
	step(t, a, m, false, load(pin, 0))
	step(t, b, m, false, load(pin, 0))
	step(t, a, m, true, swap(0, 1))
	step(t, b, m, false, swap(1, 1))
	is(t, b.E, 0)
	step(t, b, m, false, load(plan.Epoch, 1))
	step(t, b, m, false, load(pin, 0))
	step(t, b, m, true, swap(1, 2))
	is(t, a.E, 1)
	is(t, b.E, 2)
}

// P8.2: all clients are pinned: the next epoch begins, and the one behind it not till the last of them has left, or is pinned in the next one.
func TestAllArePinned(t *testing.T) {
	for _, c := range configs() {
		m := memory(c, 10)
		for who := range c.Clients {
			p := epoch.NewPin(c, who)
			ends(t, p, m)
			is(t, p.E, 10)
		}
		a := epoch.NewAdvance(c)
		ends(t, a, m)
		is(t, a.E, 11)
		b := epoch.NewAdvance(c)
		for who := range c.Clients {
			for range 20 {
				if b.Step(m) || m.Words()[plan.Epoch] != 11 {
					t.Fatalf("%+v: with client %d in epoch 10 the epoch is %d", c, who, m.Words()[plan.Epoch])
				}
			}
			ends(t, epoch.NewLeave(c, who), m)
			if who%2 == 1 {
				p := epoch.NewPin(c, who)
				ends(t, p, m)
				is(t, p.E, 11)
			}
		}
		ends(t, b, m)
		is(t, b.E, 12)
	}
}

// P8.1: a machine touches nothing but the epoch and pins, a Pin and a Leave no pin but their client's: all other words stay as they were.
func TestOtherWordsStay(t *testing.T) {
	for _, c := range configs() {
		words := plan.Memory(c).Words()
		for at := range words {
			words[at] ^= 0xabcd_0000_0000_0000 + uint64(at)
		}
		words[plan.Epoch] = 20
		for who := range c.Clients {
			m := mem.Of(words)
			ends(t, epoch.NewPin(c, who), m)
			words[plan.Pin(c, who)] = 41
			if !slices.Equal(m.Words(), words) {
				t.Fatalf("%+v: a Pin changed other words", c)
			}
		}
		m := mem.Of(words)
		ends(t, epoch.NewAdvance(c), m)
		words[plan.Epoch] = 21
		if !slices.Equal(m.Words(), words) {
			t.Fatalf("%+v: an Advance changed other words", c)
		}
		for who := range c.Clients {
			ends(t, epoch.NewLeave(c, who), m)
			words[plan.Pin(c, who)] = 0
			if !slices.Equal(m.Words(), words) {
				t.Fatalf("%+v: a Leave changed other words", c)
			}
		}
	}
}

// P8.1: no machines of configs that aren't right, and of clients that there are not; of the others there are.
func TestMakersOfWrong(t *testing.T) {
	for _, c := range wrongConfigs() {
		if epoch.NewAdvance(c) != nil {
			t.Errorf("NewAdvance(%+v): a machine", c)
		}
		for _, who := range []int{-1, 0, 1, 2, 7, 8} {
			if epoch.NewPin(c, who) != nil || epoch.NewLeave(c, who) != nil {
				t.Errorf("%+v, client %d: a machine", c, who)
			}
		}
	}
	for _, c := range configs() {
		if a := epoch.NewAdvance(c); a == nil || a.E != 0 {
			t.Errorf("NewAdvance(%+v): %+v", c, a)
		}
		for _, who := range []int{math.MinInt, math.MinInt + 1, -1 << 32, -8, -2, -1, c.Clients, c.Clients + 1, 8, 9, 1 << 16, 1 << 32, 1 << 62, math.MaxInt - 1, math.MaxInt} {
			if epoch.NewPin(c, who) != nil || epoch.NewLeave(c, who) != nil {
				t.Errorf("%+v, client %d: a machine", c, who)
			}
		}
		for who := range c.Clients {
			if epoch.NewPin(c, who) == nil || epoch.NewLeave(c, who) == nil {
				t.Errorf("%+v, client %d: nil", c, who)
			}
		}
	}
}

// P8.1: to make a machine is no touch, and it works by what the memory is when its steps come.
func TestMadeAhead(t *testing.T) {
	c := config(2)
	p, l, a := epoch.NewPin(c, 1), epoch.NewLeave(c, 1), epoch.NewAdvance(c)
	m := memory(c, 30)
	ends(t, p, m)
	ends(t, a, m)
	ends(t, l, m)
	is(t, p.E, 30)
	is(t, a.E, 31)
	if m.Touches() != 3+4+1 || m.Words()[plan.Pin(c, 1)] != 0 {
		t.Errorf("%d touches, want 8", m.Touches())
	}
}

// P8.1: a nil machine's work is done, in whatever memory.
func TestNilMachines(t *testing.T) {
	m := plan.Memory(config(2))
	for _, k := range []mem.Machine{
		epoch.NewPin(api.Config{}, 0), epoch.NewLeave(api.Config{}, 0), epoch.NewAdvance(api.Config{}),
		epoch.NewPin(config(2), 2), epoch.NewLeave(config(2), -1),
		(*epoch.Pin)(nil), (*epoch.Leave)(nil), (*epoch.Advance)(nil),
	} {
		over(t, k, m)
		over(t, k, nil)
	}
}

// Rule 5: no step panics in a memory that isn't the config's, wherever the machine is: none, one with fewer words, or one of another config's; and none does more than one touch.
func TestOtherMemories(t *testing.T) {
	c := config(3)
	memories := []func() *mem.Mem{func() *mem.Mem { return nil }}
	for n := range plan.Size(c) {
		memories = append(memories, func() *mem.Mem { return mem.Of(plan.Memory(c).Words()[:n]) })
	}
	for _, other := range append(configs(), config(4)) {
		memories = append(memories, func() *mem.Mem { return plan.Memory(other) })
	}
	for ahead := range 7 {
		for _, other := range memories {
			for _, k := range []mem.Machine{epoch.NewPin(c, 0), epoch.NewPin(c, 2), epoch.NewLeave(c, 2), epoch.NewAdvance(c)} {
				right, wrong := plan.Memory(c), other()
				for range ahead {
					k.Step(right)
				}
				for range 12 {
					before := wrong.Touches()
					k.Step(wrong)
					if wrong.Touches() > before+1 {
						t.Fatalf("%d touches in one step", wrong.Touches()-before)
					}
				}
			}
		}
	}
}
