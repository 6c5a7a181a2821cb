package shade_test

import (
	"math"
	"slices"
	"testing"

	"withy/api"
	"withy/head"
	"withy/mem"
	"withy/plan"
	"withy/shade"
)

// config is one with so many slots, and the least of all else.
func config(slots int) api.Config {
	return api.Config{Slots: slots, Clients: 1, Handles: 1, Gens: 1}
}

// configs are right ones, with the words at unlike places, and from one slot to all.
func configs() []api.Config {
	return []api.Config{
		config(1), config(2), config(3), config(63), config(64),
		{Slots: 5, Arity: 4, Clients: 2, Handles: 3, Gens: 7, Stack: 9},
		{Slots: 64, Arity: 8, Clients: 8, Handles: 16, Gens: 1 << 20, Stack: 64},
	}
}

// wrongConfigs are configs in which one number is beyond its lowest or highest.
func wrongConfigs() []api.Config {
	l := []api.Config{{}}
	for _, c := range []api.Config{config(3), {Slots: 64, Arity: 8, Clients: 8, Handles: 16, Gens: 1 << 20, Stack: 64}} {
		for _, n := range []struct {
			at        *int
			low, high int
		}{{&c.Slots, 1, 64}, {&c.Arity, 0, 8}, {&c.Clients, 1, 8}, {&c.Handles, 1, 16}, {&c.Gens, 1, 1 << 20}, {&c.Stack, 0, 64}} {
			was := *n.at
			for _, v := range []int{n.low - 1, n.high + 1, math.MinInt, math.MaxInt} {
				*n.at = v
				l = append(l, c)
			}
			*n.at = was
		}
	}
	return l
}

// epochs are of all phases, of cycles with even and odd numbers, small and great.
func epochs() []uint64 {
	return []uint64{0, 1, 2, 3, 4, 5, 6, 7, 8, 1<<31 - 1, 1 << 31, 1<<32 + 6, 1 << 63, math.MaxUint64}
}

// black is the mark that says that a slot was reached in an epoch's cycle: 1 in the cycles 0, 2 and so on.
func black(e uint64) int {
	return 1 - int(e>>2&1)
}

// word is a header's word.
func word(t *testing.T, h api.Header) uint64 {
	t.Helper()
	w, ok := head.Pack(h)
	if !ok {
		t.Fatalf("%+v isn't right", h)
	}
	return w
}

// whites are headers that can be shaded in an epoch.
func whites(e uint64) []api.Header {
	l := []api.Header{}
	for _, kind := range []int{api.Node, api.Record} {
		l = append(l, api.Header{Kind: kind, Mark: 1 - black(e)},
			api.Header{Kind: kind, Mark: 1 - black(e), Arity: 3, Gen: 5},
			api.Header{Kind: kind, Mark: 1 - black(e), Gray: true, Gen: 1},
			api.Header{Kind: kind, Mark: 1 - black(e), Arity: 15, Gen: 1<<32 - 1, Stamp: 1<<16 - 1})
	}
	return l
}

// stays are words of headers that can't be shaded in an epoch: marked already, of other kinds, and no headers at all.
func stays(t *testing.T, e uint64) []uint64 {
	t.Helper()
	l := []uint64{math.MaxUint64, 1 << 9, 1<<15 + 1, 1<<12 + 2}
	for _, gray := range []bool{false, true} {
		for _, kind := range []int{api.Node, api.Record} {
			l = append(l, word(t, api.Header{Kind: kind, Mark: black(e), Gray: gray, Arity: 2, Gen: 9}))
		}
		for mark := range 2 {
			for _, kind := range []int{api.Free, api.Limbo, api.Dead} {
				l = append(l, word(t, api.Header{Kind: kind, Mark: mark, Gray: gray, Gen: 2, Stamp: 3}))
			}
			for kind := range uint64(3) {
				l = append(l, kind+5+uint64(mark)*8+1<<20)
			}
			for bit := 9; bit < 16; bit++ {
				l = append(l, api.Node+uint64(mark)*8+1<<bit, api.Record+uint64(mark)*8+1<<bit)
			}
		}
	}
	return l
}

// memory is one of a config, with so many grays, and these headers of the first slots.
func memory(c api.Config, grays uint64, headers ...uint64) *mem.Mem {
	words := plan.Memory(c).Words()
	words[plan.Grays] = grays
	for slot, w := range headers {
		words[plan.Header(c, slot)] = w
	}
	return mem.Of(words)
}

// step has a machine take one step, and holds what it answers, and the one touch it does, against what it should.
func step(t *testing.T, k mem.Machine, m *mem.Mem, done bool, touch api.Touch) {
	t.Helper()
	before := m.Touches()
	if got := k.Step(m); got != done {
		t.Fatalf("Step: %v, want %v (last touch %+v)", got, done, m.Last())
	}
	if m.Touches() != before+1 || m.Last() != touch {
		t.Fatalf("%d touches, the last %+v, want one, %+v", m.Touches()-before, m.Last(), touch)
	}
}

// ends takes steps till the work is done, and is how many.
func ends(t *testing.T, k mem.Machine, m *mem.Mem) int {
	t.Helper()
	for n := range 100 {
		if k.Step(m) {
			return n + 1
		}
	}
	t.Fatal("the work isn't done behind 100 steps")
	return 0
}

// over asks a machine whose work is done for more steps: nothing is done any more.
func over(t *testing.T, k mem.Machine, m *mem.Mem) {
	t.Helper()
	touches, words := m.Touches(), m.Words()
	for range 5 {
		if !k.Step(m) {
			t.Fatal("Step behind the last one: false")
		}
	}
	if m.Touches() != touches || !slices.Equal(m.Words(), words) {
		t.Fatalf("steps behind the last one: %d touches", m.Touches()-touches)
	}
}

// grew holds a machine's Grew against what it should be.
func grew(t *testing.T, s *shade.Shade, want bool) {
	t.Helper()
	if s.Grew != want {
		t.Fatalf("Grew is %v, want %v", s.Grew, want)
	}
}

// load is the touch of a word that is loaded.
func load(at int, w uint64) api.Touch {
	return api.Touch{Kind: api.TLoad, At: at, Was: w, Now: w}
}

// add is the touch of the grays that become another number.
func add(was, now uint64) api.Touch {
	return api.Touch{Kind: api.TAdd, At: plan.Grays, Was: was, Now: now}
}

// swap is the touch of a header that is swapped; one that isn't done leaves it as it was.
func swap(at int, was, now uint64) api.Touch {
	return api.Touch{Kind: api.TSwap, At: at, Was: was, Now: now}
}

// P9.1: the document's example, touch by touch.
func TestExample(t *testing.T) {
	c := config(1)
	white := word(t, api.Header{Kind: api.Node})
	gray := word(t, api.Header{Kind: api.Node, Mark: 1, Gray: true})
	m := memory(c, 0, white)
	at := plan.Header(c, 0)
	a, b := shade.NewShade(c, 0, 2), shade.NewShade(c, 0, 2)
	step(t, a, m, false, load(at, white))
	step(t, b, m, false, load(at, white))
	step(t, a, m, false, add(0, 1))
	step(t, b, m, false, add(1, 2))
	grew(t, a, false)
	step(t, a, m, true, swap(at, white, gray))
	grew(t, a, true)
	step(t, b, m, false, swap(at, gray, gray))
	grew(t, b, false)
	over(t, a, m)
	step(t, b, m, false, add(2, 1))
	step(t, b, m, true, load(at, gray))
	grew(t, a, true)
	grew(t, b, false)
	over(t, a, m)
	over(t, b, m)
	grew(t, a, true)
	grew(t, b, false)
	if n := shade.Grays(c, m.Words()); n != 1 || m.Words()[plan.Grays] != 1 {
		t.Errorf("Grays is %d, and the grays are %d", n, m.Words()[plan.Grays])
	}
}

// P9.1: one alone, from its first step to its last, of each slot, in each phase, of all that can be shaded.
func TestShadeAlone(t *testing.T) {
	for _, c := range configs() {
		for slot := range c.Slots {
			for _, e := range epochs() {
				for _, h := range whites(e) {
					was := word(t, h)
					h.Mark, h.Gray = black(e), true
					now := word(t, h)
					m := memory(c, 7, slices.Repeat([]uint64{was}, c.Slots)...)
					at := plan.Header(c, slot)
					s := shade.NewShade(c, slot, e)
					grew(t, s, false)
					step(t, s, m, false, load(at, was))
					grew(t, s, false)
					step(t, s, m, false, add(7, 8))
					grew(t, s, false)
					step(t, s, m, true, swap(at, was, now))
					grew(t, s, true)
					over(t, s, m)
					grew(t, s, true)
				}
			}
		}
	}
}

// P9.1: what can't be shaded: one step, a load, and nothing else.
func TestWhatStays(t *testing.T) {
	c := config(3)
	for slot := range c.Slots {
		for _, e := range epochs() {
			for _, w := range stays(t, e) {
				m := memory(c, 5, w, w, w)
				s := shade.NewShade(c, slot, e)
				step(t, s, m, true, load(plan.Header(c, slot), w))
				grew(t, s, false)
				over(t, s, m)
				grew(t, s, false)
			}
		}
	}
}

// P9.1: what is shaded is so in its epoch's cycle alone: in the same cycle it stays, in the next one it is shaded again, once it is gone through.
func TestCycleAfterCycle(t *testing.T) {
	c := config(2)
	m := memory(c, 0, 0, word(t, api.Header{Kind: api.Record, Mark: 0, Gen: 3}))
	for e := range uint64(16) {
		s := shade.NewShade(c, 1, e)
		ends(t, s, m)
		grew(t, s, e%4 == 0)
		again := shade.NewShade(c, 1, e)
		ends(t, again, m)
		grew(t, again, false)
		if w := m.Words()[plan.Header(c, 1)]; w != word(t, api.Header{Kind: api.Record, Mark: black(e), Gray: e%4 < 2, Gen: 3}) {
			t.Fatalf("epoch %d: the header is %x", e, w)
		}
		if e%4 == 1 {
			w, _ := head.Blackened(m.Words()[plan.Header(c, 1)])
			m.Store(plan.Header(c, 1), w)
		}
	}
	if n := m.Words()[plan.Grays]; n != 4 {
		t.Errorf("the grays are %d, want 4", n)
	}
}

// P9.1: a header that changes behind the load, ahead of the addition or behind it, to one that can be shaded still: the swap isn't done, the one is taken back, and what is there now is shaded; so again and again.
func TestChangedToAWhiteOne(t *testing.T) {
	c := config(3)
	for _, ahead := range []bool{true, false} {
		for slot := range c.Slots {
			for _, e := range epochs() {
				m := memory(c, 40)
				at := plan.Header(c, slot)
				l := whites(e)
				m.Store(at, word(t, l[0]))
				s := shade.NewShade(c, slot, e)
				for i, h := range l[1:] {
					was, now := word(t, l[i]), word(t, h)
					step(t, s, m, false, load(at, was))
					if ahead {
						m.Store(at, now)
					}
					step(t, s, m, false, add(40, 41))
					m.Store(at, now)
					step(t, s, m, false, swap(at, now, now))
					grew(t, s, false)
					step(t, s, m, false, add(41, 40))
					grew(t, s, false)
				}
				h := l[len(l)-1]
				was := word(t, h)
				h.Mark, h.Gray = black(e), true
				step(t, s, m, false, load(at, was))
				step(t, s, m, false, add(40, 41))
				step(t, s, m, true, swap(at, was, word(t, h)))
				grew(t, s, true)
				over(t, s, m)
			}
		}
	}
}

// P9.1: a header that changes behind the load to one that can't be shaded: the swap isn't done, the one is taken back, and the work is done with the load then.
func TestChangedToOneThatStays(t *testing.T) {
	c := config(3)
	for _, ahead := range []bool{true, false} {
		for slot := range c.Slots {
			for _, e := range epochs() {
				for _, now := range stays(t, e) {
					m := memory(c, 40)
					at := plan.Header(c, slot)
					was := word(t, whites(e)[1])
					m.Store(at, was)
					s := shade.NewShade(c, slot, e)
					step(t, s, m, false, load(at, was))
					if ahead {
						m.Store(at, now)
					}
					step(t, s, m, false, add(40, 41))
					m.Store(at, now)
					step(t, s, m, false, swap(at, now, now))
					step(t, s, m, false, add(41, 40))
					step(t, s, m, true, load(at, now))
					grew(t, s, false)
					over(t, s, m)
				}
			}
		}
	}
}

// P9.1: a header that changes while the one is being taken back is what counts when it begins anew.
func TestChangedBackAgain(t *testing.T) {
	c := config(1)
	m := memory(c, 0)
	at := plan.Header(c, 0)
	white, gray := word(t, api.Header{Kind: api.Node}), word(t, api.Header{Kind: api.Node, Mark: 1, Gray: true})
	m.Store(at, white)
	s := shade.NewShade(c, 0, 1)
	step(t, s, m, false, load(at, white))
	step(t, s, m, false, add(0, 1))
	m.Store(at, gray)
	step(t, s, m, false, swap(at, gray, gray))
	m.Store(at, white)
	step(t, s, m, false, add(1, 0))
	step(t, s, m, false, load(at, white))
	step(t, s, m, false, add(0, 1))
	m.Store(at, 0)
	m.Store(at, white)
	step(t, s, m, true, swap(at, white, gray))
	grew(t, s, true)
}

// P9.1: the grays wrap round: whatever they are, one is added, and one is taken.
func TestGreatGrays(t *testing.T) {
	c := config(1)
	at := plan.Header(c, 0)
	white := word(t, api.Header{Kind: api.Node})
	for _, n := range []uint64{0, 1, 1<<31 - 1, 1<<32 - 1, 1 << 32, 1<<63 - 1, 1 << 63, math.MaxUint64 - 1, math.MaxUint64} {
		for _, others := range []uint64{0, 1, 1 << 62, math.MaxUint64} {
			m := memory(c, n, white)
			s := shade.NewShade(c, 0, 0)
			step(t, s, m, false, load(at, white))
			step(t, s, m, false, add(n, n+1))
			m.Store(at, 0)
			step(t, s, m, false, swap(at, 0, 0))
			m.Store(plan.Grays, others)
			step(t, s, m, false, add(others, others-1))
			step(t, s, m, true, load(at, 0))
		}
	}
}

// P9.1: a machine touches nothing but the grays and its slot's header: all other words stay as they were.
func TestOtherWordsStay(t *testing.T) {
	for _, c := range configs() {
		words := plan.Memory(c).Words()
		for at := range words {
			words[at] ^= 0xabcd_0000_0000_0000 + uint64(at)
		}
		for slot := range c.Slots {
			words[plan.Header(c, slot)] = word(t, api.Header{Kind: api.Record, Gen: slot})
		}
		m := mem.Of(words)
		for slot := range c.Slots {
			ends(t, shade.NewShade(c, slot, 3), m)
			words[plan.Header(c, slot)] = word(t, api.Header{Kind: api.Record, Mark: 1, Gray: true, Gen: slot})
			words[plan.Grays]++
			if !slices.Equal(m.Words(), words) {
				t.Fatalf("%+v: other words were changed", c)
			}
		}
	}
}

// P9.2: how many headers are gray, of none, some and all slots, whatever their kind, and whatever all other words are.
func TestGrays(t *testing.T) {
	for _, c := range configs() {
		words := make([]uint64, plan.Size(c))
		for at := range words {
			words[at] = word(t, api.Header{Kind: api.Node, Gray: true})
		}
		for slot := range c.Slots {
			words[plan.Header(c, slot)] = word(t, api.Header{Kind: slot % 5, Mark: slot / 5 % 2})
		}
		for n, slot := range grayOrder(c.Slots) {
			if got := shade.Grays(c, words); got != n {
				t.Fatalf("%+v: %d, want %d", c, got, n)
			}
			words[plan.Header(c, slot)] = word(t, api.Header{Kind: slot % 5, Mark: slot / 5 % 2, Gray: true, Gen: 7})
		}
		if got := shade.Grays(c, words); got != c.Slots {
			t.Fatalf("%+v, all: %d", c, got)
		}
		if got := shade.Grays(c, plan.Memory(c).Words()); got != 0 {
			t.Errorf("%+v, a new memory: %d", c, got)
		}
	}
}

// grayOrder is all slots: the last one first, then the first, then the others.
func grayOrder(slots int) []int {
	l := []int{slots - 1}
	for slot := range slots - 1 {
		l = append(l, slot)
	}
	return l
}

// P9.2: a word that is no right header's is not gray, whatever its bits are.
func TestGraysOfNoHeaders(t *testing.T) {
	c := config(2)
	gray := word(t, api.Header{Kind: api.Node, Gray: true})
	words := plan.Memory(c).Words()
	words[plan.Header(c, 0)] = gray
	for _, w := range []uint64{math.MaxUint64, 16 + 5, 16 + 6, 16 + 7, gray + 1<<9, gray + 1<<12, gray + 1<<15, math.MaxUint64 - 3, math.MaxUint64 - 4} {
		words[plan.Header(c, 1)] = w
		if got := shade.Grays(c, words); got != 1 {
			t.Errorf("with %x: %d, want 1", w, got)
		}
	}
}

// P9.2: words that aren't as many as the plan has, or of a config that isn't right: 0.
func TestGraysOfWrongWords(t *testing.T) {
	gray := word(t, api.Header{Kind: api.Node, Gray: true})
	for _, c := range configs() {
		size := plan.Size(c)
		words := slices.Repeat([]uint64{gray}, size+3)
		for _, n := range []int{0, 1, 3, 4, 5, size - 1, size + 1, size + 2, size + 3} {
			if got := shade.Grays(c, words[:n]); got != 0 {
				t.Errorf("%+v, %d words: %d", c, n, got)
			}
		}
		if got := shade.Grays(c, nil); got != 0 {
			t.Errorf("%+v, no words: %d", c, got)
		}
		if got := shade.Grays(c, words[:size]); got != c.Slots {
			t.Errorf("%+v, as many words: %d", c, got)
		}
	}
	for _, c := range wrongConfigs() {
		for _, n := range []int{0, 1, 4, plan.Size(config(3)), 1000} {
			if got := shade.Grays(c, slices.Repeat([]uint64{gray}, n)); got != 0 {
				t.Errorf("%+v, %d words: %d", c, n, got)
			}
		}
		if got := shade.Grays(c, nil); got != 0 {
			t.Errorf("%+v, no words: %d", c, got)
		}
	}
}

// Rule 4: the words that are handed in stay as they were, their spare room too.
func TestGraysChangesNothing(t *testing.T) {
	c := config(4)
	gray := word(t, api.Header{Kind: api.Record, Gray: true})
	words := append(memory(c, 4, gray, 0, gray).Words(), gray, gray, gray)
	before := slices.Clone(words)
	if got := shade.Grays(c, words[:plan.Size(c)]); got != 2 {
		t.Errorf("%d, want 2", got)
	}
	if !slices.Equal(words, before) {
		t.Error("the words that were handed in were changed")
	}
}

// P9.1: no machines of configs that aren't right, and of slots that there are not; of the others there are.
func TestMakersOfWrong(t *testing.T) {
	for _, c := range wrongConfigs() {
		for _, slot := range []int{-1, 0, 1, 2, 63, 64} {
			if shade.NewShade(c, slot, 2) != nil {
				t.Errorf("NewShade(%+v, %d, 2): a machine", c, slot)
			}
		}
	}
	for _, c := range configs() {
		for _, e := range epochs() {
			for _, slot := range []int{math.MinInt, math.MinInt + 1, -1 << 32, -64, -2, -1, c.Slots, c.Slots + 1, 64, 65, 1 << 16, 1 << 32, 1<<32 + 1, 1 << 62, math.MaxInt - 1, math.MaxInt} {
				if shade.NewShade(c, slot, e) != nil {
					t.Errorf("NewShade(%+v, %d, %d): a machine", c, slot, e)
				}
			}
			for slot := range c.Slots {
				if s := shade.NewShade(c, slot, e); s == nil || s.Grew {
					t.Errorf("NewShade(%+v, %d, %d): %+v", c, slot, e, s)
				}
			}
		}
	}
}

// P9.1: to make a machine is no touch, and it works by what the memory is when its steps come.
func TestMadeAhead(t *testing.T) {
	c := config(2)
	s := shade.NewShade(c, 1, 6)
	m := memory(c, 0, 0, word(t, api.Header{Kind: api.Node, Mark: 1}))
	if n := ends(t, s, m); n != 3 || m.Touches() != 3 {
		t.Errorf("%d steps, %d touches, want 3", n, m.Touches())
	}
	grew(t, s, true)
}

// P9.1: a nil machine's work is done, in whatever memory.
func TestNilMachines(t *testing.T) {
	m := plan.Memory(config(2))
	for _, k := range []mem.Machine{shade.NewShade(api.Config{}, 0, 0), shade.NewShade(config(2), 2, 0), shade.NewShade(config(2), -1, 2), (*shade.Shade)(nil)} {
		over(t, k, m)
		over(t, k, nil)
	}
}

// Rule 5: no step panics in a memory that isn't the config's, wherever the machine is: none, one with fewer words, or one of another config's; and none does more than one touch.
func TestOtherMemories(t *testing.T) {
	c := config(3)
	white := word(t, api.Header{Kind: api.Node})
	memories := []func() *mem.Mem{func() *mem.Mem { return nil }}
	for n := range plan.Size(c) {
		memories = append(memories, func() *mem.Mem { return mem.Of(memory(c, 0, white, white, white).Words()[:n]) })
	}
	for _, other := range append(configs(), config(4)) {
		memories = append(memories, func() *mem.Mem { return plan.Memory(other) })
	}
	for ahead := range 5 {
		for _, other := range memories {
			for slot := range c.Slots {
				k := shade.NewShade(c, slot, 2)
				right, wrong := memory(c, 0, white, white, white), other()
				for range ahead {
					k.Step(right)
				}
				for range 12 {
					before := wrong.Touches()
					k.Step(wrong)
					if wrong.Touches() > before+1 {
						t.Fatalf("%d touches in one step", wrong.Touches()-before)
					}
				}
			}
		}
	}
}
