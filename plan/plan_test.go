package plan_test

import (
	"math"
	"slices"
	"testing"

	"withy/api"
	"withy/plan"
)

// example is the document's config.
func example() api.Config {
	return api.Config{Slots: 2, Arity: 4, Clients: 1, Handles: 2, Gens: 1}
}

// rights are right configs: each number at its edges and within, in all combinations.
func rights() []api.Config {
	var l []api.Config
	for _, slots := range []int{1, 2, 63, 64} {
		for arity := range 9 {
			for _, clients := range []int{1, 2, 3, 8} {
				for _, handles := range []int{1, 2, 5, 16} {
					l = append(l,
						api.Config{Slots: slots, Arity: arity, Clients: clients, Handles: handles, Gens: 1},
						api.Config{Slots: slots, Arity: arity, Clients: clients, Handles: handles, Gens: 1 << 20, Stack: 64})
				}
			}
		}
	}
	return l
}

// far are numbers that no config, client, slot or place has.
func far() []int {
	return []int{math.MinInt, math.MinInt + 1, math.MinInt32, -1 << 32, -65, -2, -1, 1<<20 + 1, math.MaxInt32, 1 << 32, 1<<32 + 1, 1 << 61, 1 << 62, math.MaxInt - 1, math.MaxInt}
}

// number is one of a config's numbers, with its lowest and its highest.
type number struct {
	at        *int
	low, high int
}

// numbers are all of a config's, in the config itself.
func numbers(c *api.Config) []number {
	return []number{{&c.Slots, 1, 64}, {&c.Arity, 0, 8}, {&c.Clients, 1, 8}, {&c.Handles, 1, 16}, {&c.Gens, 1, 1 << 20}, {&c.Stack, 0, 64}}
}

// wrongs are configs in which one number is beyond its lowest or highest.
func wrongs() []api.Config {
	l := []api.Config{{}, {Slots: -1, Arity: -1, Clients: -1, Handles: -1, Gens: -1, Stack: -1}}
	for _, c := range []api.Config{example(), {Slots: 64, Arity: 8, Clients: 8, Handles: 16, Gens: 1 << 20, Stack: 64}, {Slots: 1, Clients: 1, Handles: 1, Gens: 1}} {
		for _, n := range numbers(&c) {
			was := *n.at
			for _, v := range append(far(), n.low-1, n.high+1) {
				*n.at = v
				l = append(l, c)
			}
			*n.at = was
		}
	}
	return l
}

// P6.1: a config is right with each number from its lowest to its highest.
func TestRight(t *testing.T) {
	for _, c := range rights() {
		if !plan.Right(c) {
			t.Errorf("Right(%+v): false", c)
		}
	}
	for _, c := range []api.Config{example(), {Slots: 64, Arity: 8, Clients: 8, Handles: 16, Gens: 1 << 20, Stack: 64}, {Slots: 1, Clients: 1, Handles: 1, Gens: 1}} {
		for i, n := range numbers(&c) {
			was := *n.at
			for _, v := range []int{n.low, n.low + 1, (n.low + n.high) / 2, n.high - 1, n.high} {
				*n.at = v
				if !plan.Right(c) {
					t.Errorf("Right(%+v), number %d within: false", c, i)
				}
			}
			*n.at = was
		}
	}
}

// P6.1: a config with one number beyond isn't right, and nothing of it has a place.
func TestWrongConfigs(t *testing.T) {
	for _, c := range wrongs() {
		if plan.Right(c) {
			t.Errorf("Right(%+v): true", c)
		}
		if n := plan.Size(c); n != 0 {
			t.Errorf("Size(%+v): %d, want 0", c, n)
		}
		if m := plan.Memory(c); m != nil {
			t.Errorf("Memory(%+v): %d words, want nil", c, m.Size())
		}
		for _, n := range append(far(), 0, 1, 4, 7, 9, 20, 63, 795) {
			checkNone(t, c, n)
		}
	}
}

// checkNone asks a config that isn't right for all places.
func checkNone(t *testing.T, c api.Config, n int) {
	t.Helper()
	for i, at := range []int{plan.Pin(c, n), plan.View(c, n), plan.Start(c, n), plan.Header(c, n), plan.Link(c, n), plan.Slot(c, n), plan.Entry(c, n, 0), plan.Entry(c, 0, n), plan.Body(c, n, 0), plan.Body(c, 0, n)} {
		if at != -1 {
			t.Errorf("%+v, call %d of %d: %d, want -1", c, i, n, at)
		}
	}
}

// thing is a word that the document lists: which call it is of, with which arguments, and in which slot it stands.
type thing struct {
	call    string
	a, b    int
	inside  int
	answers int
}

// things are all words in the document's order, with what their calls answer.
func things(c api.Config) []thing {
	const outside = -1
	l := []thing{
		{"Clock", 0, 0, outside, plan.Clock},
		{"Epoch", 0, 0, outside, plan.Epoch},
		{"Grays", 0, 0, outside, plan.Grays},
		{"Top", 0, 0, outside, plan.Top},
	}
	for who := range c.Clients {
		l = append(l, thing{"Pin", who, 0, outside, plan.Pin(c, who)})
	}
	for who := range c.Clients {
		for i := range c.Handles {
			l = append(l, thing{"Entry", who, i, outside, plan.Entry(c, who, i)})
		}
	}
	for who := range c.Clients {
		l = append(l, thing{"View", who, 0, outside, plan.View(c, who)}, thing{"Start", who, 0, outside, plan.Start(c, who)})
	}
	for slot := range c.Slots {
		l = append(l, thing{"Header", slot, 0, slot, plan.Header(c, slot)}, thing{"Link", slot, 0, slot, plan.Link(c, slot)})
		for i := range body(c) {
			l = append(l, thing{"Body", slot, i, slot, plan.Body(c, slot, i)})
		}
	}
	return l
}

// body is how many words a body has.
func body(c api.Config) int {
	if c.Arity < 3 {
		return 3
	}
	return c.Arity
}

// P6.1, P6.3: the words stand in the document's order, one behind the other, so that no two have one place, and each place has one; and each is in its slot.
func TestPlaces(t *testing.T) {
	for _, c := range rights() {
		all := things(c)
		if plan.Size(c) != len(all) {
			t.Errorf("Size(%+v): %d, want %d", c, plan.Size(c), len(all))
		}
		for at, th := range all {
			if th.answers != at {
				t.Fatalf("%+v: %s(%d, %d): %d, want %d", c, th.call, th.a, th.b, th.answers, at)
			}
			if slot := plan.Slot(c, at); slot != th.inside {
				t.Fatalf("%+v: Slot(%d): %d, want %d", c, at, slot, th.inside)
			}
		}
	}
}

// P6.1: the numbers of the words that there is one of.
func TestConstants(t *testing.T) {
	if plan.Clock != 0 || plan.Epoch != 1 || plan.Grays != 2 || plan.Top != 3 {
		t.Errorf("Clock %d, Epoch %d, Grays %d, Top %d", plan.Clock, plan.Epoch, plan.Grays, plan.Top)
	}
}

// P6.1: the document's example, place by place.
func TestExample(t *testing.T) {
	c := example()
	got := []int{plan.Size(c), plan.Pin(c, 0), plan.Entry(c, 0, 0), plan.Entry(c, 0, 1), plan.View(c, 0), plan.Start(c, 0), plan.Header(c, 0), plan.Link(c, 0), plan.Body(c, 0, 0), plan.Body(c, 0, 3), plan.Header(c, 1), plan.Link(c, 1), plan.Body(c, 1, 0), plan.Body(c, 1, 3)}
	want := []int{21, 4, 5, 6, 7, 8, 9, 10, 11, 14, 15, 16, 17, 20}
	if !slices.Equal(got, want) {
		t.Errorf("places %v, want %v", got, want)
	}
}

// P6.1: what there isn't has no place: clients, entries, slots and words of a body.
func TestNoPlaces(t *testing.T) {
	for _, c := range rights() {
		for _, who := range append(far(), c.Clients, c.Clients+1) {
			for i, at := range []int{plan.Pin(c, who), plan.View(c, who), plan.Start(c, who), plan.Entry(c, who, 0), plan.Entry(c, who, c.Handles-1), plan.Entry(c, who, c.Handles)} {
				if at != -1 {
					t.Errorf("%+v, client %d, call %d: %d, want -1", c, who, i, at)
				}
			}
		}
		for _, entry := range append(far(), c.Handles, c.Handles+1) {
			for who := range c.Clients {
				if at := plan.Entry(c, who, entry); at != -1 {
					t.Errorf("%+v: Entry(%d, %d): %d, want -1", c, who, entry, at)
				}
			}
		}
		for _, slot := range append(far(), c.Slots, c.Slots+1) {
			for i, at := range []int{plan.Header(c, slot), plan.Link(c, slot), plan.Body(c, slot, 0), plan.Body(c, slot, 2), plan.Body(c, slot, body(c))} {
				if at != -1 {
					t.Errorf("%+v, slot %d, call %d: %d, want -1", c, slot, i, at)
				}
			}
		}
		for _, i := range append(far(), body(c), body(c)+1) {
			for _, slot := range []int{0, c.Slots - 1} {
				if at := plan.Body(c, slot, i); at != -1 {
					t.Errorf("%+v: Body(%d, %d): %d, want -1", c, slot, i, at)
				}
			}
		}
	}
}

// P6.1: a body has 3 words at least, and no more if the arity is lower.
func TestBodyOfLowArities(t *testing.T) {
	for arity := range 4 {
		c := api.Config{Slots: 2, Arity: arity, Clients: 1, Handles: 1, Gens: 1}
		if plan.Body(c, 0, 2) != 12 || plan.Body(c, 0, 3) != -1 || plan.Header(c, 1) != 13 || plan.Size(c) != 18 {
			t.Errorf("arity %d: %d, %d, %d, %d", arity, plan.Body(c, 0, 2), plan.Body(c, 0, 3), plan.Header(c, 1), plan.Size(c))
		}
	}
}

// P6.1: places that are in no slot, at the borders too, and places that there are not.
func TestSlotOfNoPlaces(t *testing.T) {
	for _, c := range rights() {
		first, size := plan.Header(c, 0), plan.Size(c)
		for _, at := range append(far(), first-1, size, size+1, size+body(c)+2) {
			if slot := plan.Slot(c, at); slot != -1 {
				t.Errorf("%+v: Slot(%d): %d, want -1", c, at, slot)
			}
		}
		if plan.Slot(c, first) != 0 || plan.Slot(c, size-1) != c.Slots-1 {
			t.Errorf("%+v: slots of the first and the last place: %d, %d", c, plan.Slot(c, first), plan.Slot(c, size-1))
		}
	}
}

// P6.2: the words of a new memory: the clock, the free list in order, and nothing else.
func TestMemory(t *testing.T) {
	for _, c := range rights() {
		m := plan.Memory(c)
		if m == nil {
			t.Fatalf("Memory(%+v): nil", c)
		}
		if m.Touches() != 0 || m.Last() != (api.Touch{}) {
			t.Errorf("Memory(%+v): %d touches, last %+v", c, m.Touches(), m.Last())
		}
		words := m.Words()
		if len(words) != plan.Size(c) {
			t.Fatalf("Memory(%+v): %d words, want %d", c, len(words), plan.Size(c))
		}
		for at, th := range things(c) {
			want := uint64(0)
			switch {
			case th.call == "Clock" || th.call == "Top":
				want = 1
			case th.call == "Link" && th.a < c.Slots-1:
				want = uint64(th.a) + 2
			}
			if words[at] != want {
				t.Errorf("Memory(%+v): %s(%d, %d) is %d, want %d", c, th.call, th.a, th.b, words[at], want)
			}
		}
	}
}

// P6.2: the document's example, word by word.
func TestMemoryOfExample(t *testing.T) {
	want := []uint64{1, 0, 0, 1, 0, 0, 0, 0, 0, 0, 2, 0, 0, 0, 0, 0, 0, 0, 0, 0, 0}
	if got := plan.Memory(example()).Words(); !slices.Equal(got, want) {
		t.Errorf("%v, want %v", got, want)
	}
}

// Rule 4 (new memory): what is done in one memory isn't seen in the next one.
func TestMemoriesAreApart(t *testing.T) {
	a, b := plan.Memory(example()), plan.Memory(example())
	before := b.Words()
	for at := range a.Size() {
		a.Store(at, 99)
	}
	if !slices.Equal(b.Words(), before) || b.Touches() != 0 {
		t.Error("a store in one memory is seen in another one")
	}
	if !slices.Equal(plan.Memory(example()).Words(), before) {
		t.Error("a store in one memory is seen in a later one")
	}
}
