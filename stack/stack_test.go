package stack_test

import (
	"math"
	"slices"
	"testing"

	"withy/api"
	"withy/mem"
	"withy/plan"
	"withy/stack"
)

// What a top's bits are: the tag times this, and the slot's number and 1.
const perTag = 1 << 16

// maxTag is the greatest tag that a top has.
const maxTag = 1<<48 - 1

// config is one with so many slots, and the least of all else.
func config(slots int) api.Config {
	return api.Config{Slots: slots, Clients: 1, Handles: 1, Gens: 1}
}

// configs are right ones, with the words at unlike places, and from one slot to all.
func configs() []api.Config {
	return []api.Config{
		config(1), config(2), config(3), config(63), config(64),
		{Slots: 5, Arity: 4, Clients: 2, Handles: 3, Gens: 7, Stack: 9},
		{Slots: 64, Arity: 8, Clients: 8, Handles: 16, Gens: 1 << 20, Stack: 64},
	}
}

// wrongConfigs are configs in which one number is beyond its lowest or highest.
func wrongConfigs() []api.Config {
	l := []api.Config{{}}
	for _, c := range []api.Config{config(3), {Slots: 64, Arity: 8, Clients: 8, Handles: 16, Gens: 1 << 20, Stack: 64}} {
		for _, n := range []struct {
			at        *int
			low, high int
		}{{&c.Slots, 1, 64}, {&c.Arity, 0, 8}, {&c.Clients, 1, 8}, {&c.Handles, 1, 16}, {&c.Gens, 1, 1 << 20}, {&c.Stack, 0, 64}} {
			was := *n.at
			for _, v := range []int{n.low - 1, n.high + 1, math.MinInt, math.MaxInt} {
				*n.at = v
				l = append(l, c)
			}
			*n.at = was
		}
	}
	return l
}

// beyond are a slot's number and 1 as words, of numbers beyond so many slots. Some have few of their low bits set, so that they are a slot's if the others are lost.
func beyond(slots int) []uint64 {
	l := []uint64{uint64(slots) + 1, uint64(slots) + 2, 66, 127, 255, 256, 257, 1<<15 + 1, 1<<16 - 1}
	if slots < 64 {
		l = append(l, 64)
	}
	return slices.DeleteFunc(append(l, 65), func(w uint64) bool { return w <= uint64(slots) })
}

// farLinks are links that no top could name, up to those of all bits.
func farLinks(slots int) []uint64 {
	l := append(beyond(slots), math.MaxUint64, math.MaxUint64-1, math.MaxUint64-63)
	for _, n := range []int{8, 16, 31, 32, 33, 48, 62, 63} {
		l = append(l, 1<<n, 1<<n+1, 1<<n+uint64(slots), ^uint64(0)<<n)
	}
	return l
}

// laid is a memory whose top has a tag and names these slots, one behind the other, as each one's link does.
func laid(c api.Config, tag uint64, slots ...int) *mem.Mem {
	words := plan.Memory(c).Words()
	at, above := plan.Top, tag*perTag
	for _, slot := range slots {
		words[at] = above + uint64(slot) + 1
		at, above = plan.Link(c, slot), 0
	}
	words[at] = above
	return mem.Of(words)
}

// ends takes steps till the work is done, and fails if that doesn't come.
func ends(t *testing.T, k mem.Machine, m *mem.Mem) {
	t.Helper()
	for range 100 {
		if k.Step(m) {
			return
		}
	}
	t.Fatal("the work isn't done behind 100 steps")
}

// step has a machine take one step, and holds what it answers, and the one touch it does, against what it should.
func step(t *testing.T, k mem.Machine, m *mem.Mem, done bool, touch api.Touch) {
	t.Helper()
	before := m.Touches()
	if got := k.Step(m); got != done {
		t.Fatalf("Step: %v, want %v (last touch %+v)", got, done, m.Last())
	}
	if m.Touches() != before+1 || m.Last() != touch {
		t.Fatalf("%d touches, the last %+v, want one, %+v", m.Touches()-before, m.Last(), touch)
	}
}

// over asks a machine whose work is done for more steps: nothing is done any more.
func over(t *testing.T, k mem.Machine, m *mem.Mem) {
	t.Helper()
	touches, words := m.Touches(), m.Words()
	for range 5 {
		if !k.Step(m) {
			t.Fatal("Step behind the last one: false")
		}
	}
	if m.Touches() != touches || !slices.Equal(m.Words(), words) {
		t.Fatalf("steps behind the last one: %d touches", m.Touches()-touches)
	}
}

// has holds the free list against what it should be.
func has(t *testing.T, c api.Config, m *mem.Mem, want ...int) {
	t.Helper()
	if got := stack.List(c, m.Words()); !slices.Equal(got, want) {
		t.Fatalf("List: %v, want %v", got, want)
	}
}

// is holds a Pop's fields against what they should be.
func is(t *testing.T, p *stack.Pop, slot int, empty bool) {
	t.Helper()
	if p.Slot != slot || p.Empty != empty {
		t.Fatalf("Slot %d, Empty %v, want %d, %v", p.Slot, p.Empty, slot, empty)
	}
}

// load is the touch of a word that is loaded.
func load(at int, w uint64) api.Touch {
	return api.Touch{Kind: api.TLoad, At: at, Was: w, Now: w}
}

// swap is the touch of a top that is swapped; one that isn't done leaves it as it was.
func swap(was, now uint64) api.Touch {
	return api.Touch{Kind: api.TSwap, At: plan.Top, Was: was, Now: now}
}

// numbers are so many, from 0 on.
func numbers(n int) []int {
	l := make([]int, n)
	for i := range l {
		l[i] = i
	}
	return l
}

// P7.1: the document's example, touch by touch.
func TestExample(t *testing.T) {
	c := config(3)
	m := plan.Memory(c)
	a, b := stack.NewPop(c), stack.NewPop(c)
	link0, link1 := plan.Link(c, 0), plan.Link(c, 1)
	step(t, a, m, false, load(plan.Top, 1))
	step(t, b, m, false, load(plan.Top, 1))
	step(t, a, m, false, load(link0, 2))
	step(t, b, m, false, load(link0, 2))
	is(t, a, -1, false)
	step(t, a, m, true, swap(1, perTag+2))
	is(t, a, 0, false)
	step(t, b, m, false, swap(perTag+2, perTag+2))
	is(t, b, -1, false)
	over(t, a, m)
	step(t, b, m, false, load(plan.Top, perTag+2))
	step(t, b, m, false, load(link1, 3))
	is(t, b, -1, false)
	step(t, b, m, true, swap(perTag+2, 2*perTag+3))
	is(t, b, 1, false)
	over(t, a, m)
	over(t, b, m)
	is(t, a, 0, false)
	is(t, b, 1, false)
	has(t, c, m, 2)
}

// P7.1: one Pop alone, from its first step to its last, in each config, till nothing is left: each takes three steps, the last one a single one.
func TestPopAlone(t *testing.T) {
	for _, c := range configs() {
		m := plan.Memory(c)
		for slot := range c.Slots {
			has(t, c, m, numbers(c.Slots)[slot:]...)
			top := uint64(slot)*perTag + uint64(slot) + 1
			next := uint64(slot) + 2
			if slot == c.Slots-1 {
				next = 0
			}
			p := stack.NewPop(c)
			is(t, p, -1, false)
			step(t, p, m, false, load(plan.Top, top))
			is(t, p, -1, false)
			step(t, p, m, false, load(plan.Link(c, slot), next))
			is(t, p, -1, false)
			step(t, p, m, true, swap(top, uint64(slot+1)*perTag+next))
			is(t, p, slot, false)
			over(t, p, m)
			is(t, p, slot, false)
		}
		has(t, c, m)
		p := stack.NewPop(c)
		step(t, p, m, true, load(plan.Top, uint64(c.Slots)*perTag))
		is(t, p, -1, true)
		over(t, p, m)
		is(t, p, -1, true)
	}
}

// P7.1: one Push alone, from its first step to its last, in each config, from none till all slots are laid.
func TestPushAlone(t *testing.T) {
	for _, c := range configs() {
		m := laid(c, 7)
		var want []int
		for slot := range c.Slots {
			has(t, c, m, want...)
			// From the first to the last, the one before is the top's: its number and 1 is the slot's.
			top := uint64(7+slot)*perTag + uint64(slot)
			was := m.Words()[plan.Link(c, slot)]
			p := stack.NewPush(c, slot)
			step(t, p, m, false, load(plan.Top, top))
			step(t, p, m, false, api.Touch{Kind: api.TStore, At: plan.Link(c, slot), Was: was, Now: uint64(slot)})
			has(t, c, m, want...)
			step(t, p, m, true, swap(top, uint64(8+slot)*perTag+uint64(slot)+1))
			over(t, p, m)
			want = append([]int{slot}, want...)
		}
		has(t, c, m, want...)
	}
}

// P7.1: the machines touch nothing but the top and links: all other words stay as they were.
func TestOtherWordsStay(t *testing.T) {
	for _, c := range configs() {
		words := plan.Memory(c).Words()
		for at := range words {
			words[at] ^= 0xabcd_0000_0000_0000 + uint64(at)
		}
		words[plan.Top] = uint64(c.Slots)
		words[plan.Link(c, c.Slots-1)] = 0
		m := mem.Of(words)
		p := stack.NewPop(c)
		ends(t, p, m)
		ends(t, stack.NewPush(c, p.Slot), m)
		words[plan.Top] += 2 * perTag
		if !slices.Equal(m.Words(), words) {
			t.Errorf("%+v: other words were changed", c)
		}
	}
}

// P7.1: an empty list, whatever its tag: one step, and Empty.
func TestPopOfNone(t *testing.T) {
	for _, c := range configs() {
		for _, n := range []uint64{0, 1, 2, 1 << 16, 1 << 31, 1 << 47, maxTag} {
			m := laid(c, n)
			has(t, c, m)
			p := stack.NewPop(c)
			step(t, p, m, true, load(plan.Top, n*perTag))
			is(t, p, -1, true)
			over(t, p, m)
		}
	}
}

// P7.1, P7.2: a list of one slot, whichever it is.
func TestListOfOne(t *testing.T) {
	for _, c := range configs() {
		for slot := range c.Slots {
			m := laid(c, 3, slot)
			has(t, c, m, slot)
			p := stack.NewPop(c)
			ends(t, p, m)
			is(t, p, slot, false)
			has(t, c, m)
			ends(t, stack.NewPush(c, slot), m)
			has(t, c, m, slot)
			if w := m.Words()[plan.Top]; w != 5*perTag+uint64(slot)+1 {
				t.Errorf("the top behind a Pop and a Push: %#x", w)
			}
		}
	}
}

// P7.1, P7.2: a top whose number is beyond the config's slots names none: for a Pop, for the list, and for the link that a Push stores.
func TestTopBeyond(t *testing.T) {
	for _, c := range configs() {
		for _, low := range beyond(c.Slots) {
			top := 9*perTag + low
			m := laid(c, 0)
			m.Store(plan.Top, top)
			has(t, c, m)
			p := stack.NewPop(c)
			step(t, p, m, true, load(plan.Top, top))
			is(t, p, -1, true)
			last := c.Slots - 1
			was := m.Words()[plan.Link(c, last)]
			q := stack.NewPush(c, last)
			step(t, q, m, false, load(plan.Top, top))
			step(t, q, m, false, api.Touch{Kind: api.TStore, At: plan.Link(c, last), Was: was})
			step(t, q, m, true, swap(top, 10*perTag+uint64(c.Slots)))
			has(t, c, m, last)
		}
	}
}

// P7.1, P7.2: a link whose number is beyond the config's slots names none, a slot's low bits in it or not: the list ends there, and so does the one that a Pop leaves.
func TestLinkBeyond(t *testing.T) {
	for _, c := range configs() {
		for _, link := range farLinks(c.Slots) {
			m := laid(c, 4, c.Slots-1)
			m.Store(plan.Link(c, c.Slots-1), link)
			has(t, c, m, c.Slots-1)
			p := stack.NewPop(c)
			step(t, p, m, false, load(plan.Top, 4*perTag+uint64(c.Slots)))
			step(t, p, m, false, load(plan.Link(c, c.Slots-1), link))
			step(t, p, m, true, swap(4*perTag+uint64(c.Slots), 5*perTag))
			is(t, p, c.Slots-1, false)
			has(t, c, m)
		}
	}
}

// P7.2: all links of all bits: the list is the top's slot alone.
func TestAllLinksOfAllBits(t *testing.T) {
	for _, c := range configs() {
		words := slices.Repeat([]uint64{math.MaxUint64}, plan.Size(c))
		if got := stack.List(c, words); len(got) != 0 {
			t.Errorf("%+v, all words of all bits: %v", c, got)
		}
		words[plan.Top] = uint64(c.Slots)
		if got := stack.List(c, words); !slices.Equal(got, []int{c.Slots - 1}) {
			t.Errorf("%+v, all links of all bits: %v", c, got)
		}
	}
}

// P7.1: behind the greatest tag 0 comes, and the slots are as ever.
func TestGreatestTag(t *testing.T) {
	for _, c := range configs() {
		all := numbers(c.Slots)
		m := laid(c, maxTag, all...)
		has(t, c, m, all...)
		top := uint64(maxTag)*perTag + 1
		p := stack.NewPop(c)
		step(t, p, m, false, load(plan.Top, top))
		next := uint64(2)
		if c.Slots == 1 {
			next = 0
		}
		step(t, p, m, false, load(plan.Link(c, 0), next))
		step(t, p, m, true, swap(top, next))
		is(t, p, 0, false)

		m.Store(plan.Top, uint64(maxTag)*perTag+next)
		q := stack.NewPush(c, 0)
		step(t, q, m, false, load(plan.Top, uint64(maxTag)*perTag+next))
		step(t, q, m, false, api.Touch{Kind: api.TStore, At: plan.Link(c, 0), Was: next, Now: next})
		step(t, q, m, true, swap(uint64(maxTag)*perTag+next, 1))
		has(t, c, m, all...)
	}
}

// P7.1: a Pop whose swap isn't done begins anew, as often as that is so, and each time with what the top is by then.
func TestPopBeginsAnew(t *testing.T) {
	for times := range 6 {
		c := config(8)
		m := plan.Memory(c)
		p := stack.NewPop(c)
		for slot := range times {
			top := uint64(slot)*perTag + uint64(slot) + 1
			step(t, p, m, false, load(plan.Top, top))
			step(t, p, m, false, load(plan.Link(c, slot), uint64(slot)+2))
			ends(t, stack.NewPop(c), m)
			now := top + perTag + 1
			step(t, p, m, false, swap(now, now))
			is(t, p, -1, false)
			has(t, c, m, numbers(8)[slot+1:]...)
		}
		top := uint64(times)*perTag + uint64(times) + 1
		step(t, p, m, false, load(plan.Top, top))
		step(t, p, m, false, load(plan.Link(c, times), uint64(times)+2))
		step(t, p, m, true, swap(top, top+perTag+1))
		is(t, p, times, false)
		over(t, p, m)
	}
}

// P7.1: a Pop that begins anew, and finds nothing any more, is Empty, and has no slot.
func TestPopBeginsAnewWithNone(t *testing.T) {
	c := config(1)
	m := plan.Memory(c)
	p := stack.NewPop(c)
	step(t, p, m, false, load(plan.Top, 1))
	step(t, p, m, false, load(plan.Link(c, 0), 0))
	ends(t, stack.NewPop(c), m)
	step(t, p, m, false, swap(perTag, perTag))
	step(t, p, m, true, load(plan.Top, perTag))
	is(t, p, -1, true)
	over(t, p, m)
	is(t, p, -1, true)
}

// P7.1: a Push whose swap isn't done begins anew, as often as that is so, and stores the link anew too.
func TestPushBeginsAnew(t *testing.T) {
	for times := range 6 {
		c := config(8)
		m := plan.Memory(c)
		ends(t, stack.NewPop(c), m)
		p := stack.NewPush(c, 0)
		link := uint64(2)
		for i := range times {
			top := uint64(i+1)*perTag + uint64(i) + 2
			step(t, p, m, false, load(plan.Top, top))
			step(t, p, m, false, api.Touch{Kind: api.TStore, At: plan.Link(c, 0), Was: link, Now: uint64(i) + 2})
			link = uint64(i) + 2
			ends(t, stack.NewPop(c), m)
			now := top + perTag + 1
			step(t, p, m, false, swap(now, now))
			has(t, c, m, numbers(8)[i+2:]...)
		}
		top := uint64(times+1)*perTag + uint64(times) + 2
		step(t, p, m, false, load(plan.Top, top))
		step(t, p, m, false, api.Touch{Kind: api.TStore, At: plan.Link(c, 0), Was: link, Now: uint64(times) + 2})
		step(t, p, m, true, swap(top, uint64(times+2)*perTag+1))
		has(t, c, m, append([]int{0}, numbers(8)[times+1:]...)...)
		over(t, p, m)
	}
}

// P7.1, P7.3: a slot that is taken and laid again between a machine's load and its swap: the top names the same slot with another tag, and the swap isn't done, so that the slot behind, which was taken meanwhile, isn't in the list again.
func TestTakenAndLaidAgain(t *testing.T) {
	c := config(4)
	for _, stopped := range []int{1, 2} {
		m := plan.Memory(c)
		p := stack.NewPop(c)
		for range stopped {
			p.Step(m)
		}
		for want := range 2 {
			q := stack.NewPop(c)
			ends(t, q, m)
			is(t, q, want, false)
		}
		ends(t, stack.NewPush(c, 0), m)
		has(t, c, m, 0, 2, 3)
		if stopped == 1 {
			step(t, p, m, false, load(plan.Link(c, 0), 3))
		}
		top := uint64(3*perTag + 1)
		step(t, p, m, false, swap(top, top))
		has(t, c, m, 0, 2, 3)
		step(t, p, m, false, load(plan.Top, top))
		step(t, p, m, false, load(plan.Link(c, 0), 3))
		step(t, p, m, true, swap(top, 4*perTag+3))
		is(t, p, 0, false)
		has(t, c, m, 2, 3)
	}
}

// P7.1, P7.3: the same for a Push: the top that it loaded names the same slot again, with another tag.
func TestTakenAndLaidAgainUnderAPush(t *testing.T) {
	c := config(4)
	m := plan.Memory(c)
	ends(t, stack.NewPop(c), m)
	p := stack.NewPush(c, 0)
	step(t, p, m, false, load(plan.Top, perTag+2))
	step(t, p, m, false, api.Touch{Kind: api.TStore, At: plan.Link(c, 0), Was: 2, Now: 2})
	q := stack.NewPop(c)
	ends(t, q, m)
	is(t, q, 1, false)
	ends(t, stack.NewPush(c, 1), m)
	top := uint64(3*perTag + 2)
	step(t, p, m, false, swap(top, top))
	has(t, c, m, 1, 2, 3)
	ends(t, p, m)
	has(t, c, m, 0, 1, 2, 3)
}

// P7.2: the list in the order of its links, of some slots and of all, whatever the other words are.
func TestList(t *testing.T) {
	c := config(6)
	for _, want := range [][]int{nil, {5}, {0, 1, 2, 3, 4, 5}, {5, 4, 3, 2, 1, 0}, {3, 0, 5}, {2, 4, 0, 1}} {
		has(t, c, laid(c, 77, want...), want...)
	}
	big := config(64)
	turned := numbers(64)
	slices.Reverse(turned)
	has(t, big, laid(big, maxTag, turned...), turned...)
	has(t, big, plan.Memory(big), numbers(64)...)
}

// P7.2: a list that goes round ends where it has as many slots as there are.
func TestListThatGoesRound(t *testing.T) {
	for _, c := range configs() {
		words := plan.Memory(c).Words()
		words[plan.Link(c, c.Slots-1)] = 1
		if got := stack.List(c, words); !slices.Equal(got, numbers(c.Slots)) {
			t.Errorf("%+v, the last one's link names the first: %v", c, got)
		}
		words[plan.Link(c, 0)] = 1
		if got := stack.List(c, words); !slices.Equal(got, make([]int, c.Slots)) {
			t.Errorf("%+v, a slot names itself: %v", c, got)
		}
	}
	c := config(5)
	words := plan.Memory(c).Words()
	words[plan.Link(c, 2)] = 2
	if got := stack.List(c, words); !slices.Equal(got, []int{0, 1, 2, 1, 2}) {
		t.Errorf("a round of two behind one: %v", got)
	}
}

// P7.1: a Pop does as it should where the list goes round, too.
func TestPopOfARound(t *testing.T) {
	c := config(3)
	m := laid(c, 0, 1)
	m.Store(plan.Link(c, 1), 2)
	for range 4 {
		p := stack.NewPop(c)
		ends(t, p, m)
		is(t, p, 1, false)
		has(t, c, m, 1, 1, 1)
	}
}

// P7.2: words that aren't as many as the plan has, or of a config that isn't right: nothing.
func TestListOfWrongWords(t *testing.T) {
	for _, c := range configs() {
		words := append(plan.Memory(c).Words(), 1, 1, 1)
		size := plan.Size(c)
		for _, n := range []int{0, 1, 3, 4, 5, size - 1, size + 1, size + 2, size + 3} {
			if got := stack.List(c, words[:n]); len(got) != 0 {
				t.Errorf("%+v, %d words: %v", c, n, got)
			}
		}
		if got := stack.List(c, nil); len(got) != 0 {
			t.Errorf("%+v, no words: %v", c, got)
		}
		if got := stack.List(c, words[:size]); len(got) != c.Slots {
			t.Errorf("%+v, as many words: %v", c, got)
		}
	}
	for _, c := range wrongConfigs() {
		for _, n := range []int{0, 1, 4, plan.Size(config(3)), 1000} {
			if got := stack.List(c, slices.Repeat([]uint64{1}, n)); len(got) != 0 {
				t.Errorf("%+v, %d words: %v", c, n, got)
			}
		}
		if got := stack.List(c, nil); len(got) != 0 {
			t.Errorf("%+v, no words: %v", c, got)
		}
	}
}

// Rule 4: the words that are handed in stay as they were, their spare room too, and what is answered is new.
func TestListKeepsNothing(t *testing.T) {
	c := config(4)
	words := append(plan.Memory(c).Words(), 71, 72, 73, 74, 75, 76)
	before := slices.Clone(words)
	first := stack.List(c, words[:plan.Size(c)])
	second := stack.List(c, words[:plan.Size(c)])
	for i := range first {
		first[i] = 99
	}
	if !slices.Equal(words, before) {
		t.Error("the words that were handed in were changed")
	}
	if !slices.Equal(second, numbers(4)) || !slices.Equal(stack.List(c, words[:plan.Size(c)]), numbers(4)) {
		t.Error("what was answered is shared")
	}
}

// P7.1: no machines of configs that aren't right, and of slots that there are not; of the others there are.
func TestMakersOfWrong(t *testing.T) {
	for _, c := range wrongConfigs() {
		if stack.NewPop(c) != nil {
			t.Errorf("NewPop(%+v): a machine", c)
		}
		for _, slot := range []int{-1, 0, 1, 2, 63, 64} {
			if stack.NewPush(c, slot) != nil {
				t.Errorf("NewPush(%+v, %d): a machine", c, slot)
			}
		}
	}
	for _, c := range configs() {
		if p := stack.NewPop(c); p == nil || p.Slot != -1 || p.Empty {
			t.Errorf("NewPop(%+v): %+v", c, p)
		}
		for _, slot := range []int{math.MinInt, math.MinInt + 1, -1 << 32, -64, -2, -1, c.Slots, c.Slots + 1, 64, 65, 1 << 16, 1 << 32, 1<<32 + 1, 1 << 62, math.MaxInt - 1, math.MaxInt} {
			if stack.NewPush(c, slot) != nil {
				t.Errorf("NewPush(%+v, %d): a machine", c, slot)
			}
		}
		for slot := range c.Slots {
			if stack.NewPush(c, slot) == nil {
				t.Errorf("NewPush(%+v, %d): nil", c, slot)
			}
		}
	}
}

// P7.1: to make a machine is no touch, and it works by what the memory is when its steps come.
func TestMadeAhead(t *testing.T) {
	c := config(3)
	p, q := stack.NewPop(c), stack.NewPush(c, 2)
	m := laid(c, 5, 1, 0)
	before := m.Touches()
	ends(t, q, m)
	ends(t, p, m)
	is(t, p, 2, false)
	has(t, c, m, 1, 0)
	if m.Touches() != before+6 {
		t.Errorf("%d touches, want 6", m.Touches()-before)
	}
}

// P7.1: a nil machine's work is done, in whatever memory.
func TestNilMachines(t *testing.T) {
	m := plan.Memory(config(2))
	for _, k := range []mem.Machine{stack.NewPop(api.Config{}), stack.NewPush(api.Config{}, 0), stack.NewPush(config(2), 2), (*stack.Pop)(nil), (*stack.Push)(nil)} {
		over(t, k, m)
		over(t, k, nil)
	}
}

// Rule 5: no step panics in a memory that isn't the config's, wherever the machine is: none, one with fewer words, or one of another config's; and none does more than one touch.
func TestOtherMemories(t *testing.T) {
	c := config(3)
	memories := []func() *mem.Mem{func() *mem.Mem { return nil }}
	for n := range plan.Size(c) {
		memories = append(memories, func() *mem.Mem { return mem.Of(plan.Memory(c).Words()[:n]) })
	}
	for _, other := range append(configs(), config(4)) {
		memories = append(memories, func() *mem.Mem { return plan.Memory(other) })
	}
	for ahead := range 7 {
		for _, other := range memories {
			for _, k := range []mem.Machine{stack.NewPop(c), stack.NewPush(c, 0), stack.NewPush(c, 2)} {
				right, wrong := plan.Memory(c), other()
				for range ahead {
					k.Step(right)
				}
				for range 12 {
					before := wrong.Touches()
					k.Step(wrong)
					if wrong.Touches() > before+1 {
						t.Fatalf("%d touches in one step", wrong.Touches()-before)
					}
				}
			}
		}
	}
}
