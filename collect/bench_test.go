package collect_test

import (
	"math"
	"slices"
	"testing"

	"withy/api"
	"withy/collect"
	"withy/head"
	"withy/mem"
	"withy/plan"
	"withy/stack"
)

// none is told where there is no slot.
const none = -1

// The words of a record's body.
const (
	value = 0
	stamp = 1
	older = 2
)

// config is one with so many slots, of which so many can wait, and few of all else.
func config(slots, stack int) api.Config {
	return api.Config{Slots: slots, Arity: 2, Clients: 1, Handles: 1, Gens: 9, Stack: stack}
}

// least is the config with the least of everything.
func least() api.Config {
	return api.Config{Slots: 1, Clients: 1, Handles: 1, Gens: 1}
}

// greatest is the config with the most of everything.
func greatest() api.Config {
	return api.Config{Slots: 64, Arity: 8, Clients: 8, Handles: 16, Gens: api.MaxGens, Stack: 64}
}

// number is one of a config's, with its lowest and its highest.
type number struct {
	at        *int
	low, high int
}

// numbers are all that a config has.
func numbers(c *api.Config) []number {
	return []number{{&c.Slots, 1, 64}, {&c.Arity, 0, 8}, {&c.Clients, 1, 8}, {&c.Handles, 1, 16}, {&c.Gens, 1, 1 << 20}, {&c.Stack, 0, 64}}
}

// configs are right ones: the least and the greatest, and some in which one number is its lowest or its highest.
func configs() []api.Config {
	l := []api.Config{least(), greatest(), config(3, 0), config(3, 64)}
	c := api.Config{Slots: 6, Arity: 3, Clients: 2, Handles: 3, Gens: 4, Stack: 2}
	for _, n := range numbers(&c) {
		was := *n.at
		for _, v := range []int{n.low, n.high} {
			*n.at = v
			l = append(l, c)
		}
		*n.at = was
	}
	return l
}

// wrongConfigs are configs in which one number is beyond its lowest or highest.
func wrongConfigs() []api.Config {
	l := []api.Config{{}}
	for _, c := range []api.Config{least(), config(3, 1), greatest()} {
		for _, n := range numbers(&c) {
			was := *n.at
			for _, v := range []int{n.low - 1, n.high + 1, math.MinInt, math.MaxInt} {
				*n.at = v
				l = append(l, c)
			}
			*n.at = was
		}
	}
	return l
}

// bodySize is how many words a slot's body has.
func bodySize(c api.Config) int {
	return max(c.Arity, 3)
}

// bench is a memory in which a Collect takes steps.
type bench struct {
	t *testing.T
	c api.Config
	m *mem.Mem
	k *collect.Collect
}

// newBench is one in which nothing was done.
func newBench(t *testing.T, c api.Config) *bench {
	return &bench{t: t, c: c, m: plan.Memory(c), k: collect.NewCollect(c)}
}

// bare is one with a free list that is empty, so that slots can be made whatever a test needs.
func bare(t *testing.T, c api.Config) *bench {
	b := newBench(t, c)
	b.m.Store(plan.Top, 0)
	return b
}

// heads has a slot's header be this one.
func (b *bench) heads(slot int, h api.Header) {
	w, ok := head.Pack(h)
	if !ok {
		b.t.Helper()
		b.t.Fatalf("%+v isn't right", h)
	}
	b.m.Store(plan.Header(b.c, slot), w)
}

// head is what a slot's header says.
func (b *bench) head(slot int) api.Header {
	h, ok := head.Unpack(b.m.Words()[plan.Header(b.c, slot)])
	if !ok {
		b.t.Helper()
		b.t.Fatalf("the slot %d's header isn't right", slot)
	}
	return h
}

// node has a slot be a node, of as many fields as there are, that name these records.
func (b *bench) node(slot int, fields ...int) {
	b.heads(slot, api.Header{Kind: api.Node, Arity: len(fields)})
	for i, to := range fields {
		b.m.Store(plan.Body(b.c, slot, i), uint64(to+1))
	}
}

// record has a slot be a record.
func (b *bench) record(slot, val int, stamped uint64, next int) {
	b.heads(slot, api.Header{Kind: api.Record})
	b.m.Store(plan.Body(b.c, slot, value), uint64(val+1))
	b.m.Store(plan.Body(b.c, slot, stamp), stamped)
	b.m.Store(plan.Body(b.c, slot, older), uint64(next+1))
}

// holds has a client's entry hold a slot, with a tag.
func (b *bench) holds(who, entry, slot int) {
	b.m.Store(plan.Entry(b.c, who, entry), 7<<32+uint64(slot+1))
}

// kinds holds what the slots are, one by one, against what they should be.
func (b *bench) kinds(want ...int) {
	var got []int
	for slot := range b.c.Slots {
		got = append(got, b.head(slot).Kind)
	}
	if !slices.Equal(got, want) {
		b.t.Helper()
		b.t.Fatalf("the slots' kinds are %v, want %v", got, want)
	}
}

// list holds the free list against what it should be.
func (b *bench) list(want ...int) {
	if got := stack.List(b.c, b.m.Words()); !slices.Equal(got, want) {
		b.t.Helper()
		b.t.Fatalf("the free list is %v, want %v", got, want)
	}
}

// step goes one step on, of one touch, which is never the last one; E and Cycles are always what the memory's epoch says.
func (b *bench) step() {
	b.t.Helper()
	before := b.m.Touches()
	same(b.t, "Step", b.k.Step(b.m), false)
	same(b.t, "touches in one step", b.m.Touches()-before, 1)
	same(b.t, "E", b.k.E, b.m.Words()[plan.Epoch])
	same(b.t, "Cycles", b.k.Cycles, int(b.k.E/4))
}

// touch goes one step on, and holds its touch against what it should be.
func (b *bench) touch(want api.Touch) {
	b.t.Helper()
	b.step()
	same(b.t, "touch", b.m.Last(), want)
}

// till goes on till the epoch is this one, and is how many steps that took.
func (b *bench) till(e uint64) int {
	b.t.Helper()
	n := 0
	for b.k.E < e {
		if n > 100000 {
			b.t.Fatalf("the epoch isn't %d behind %d steps: it is %d", e, n, b.k.E)
		}
		b.step()
		n++
	}
	same(b.t, "epoch", b.k.E, e)
	return n
}

// worked goes on till the epoch is this one and its work is done: its Advance has taken its first step.
func (b *bench) worked(e uint64) {
	b.t.Helper()
	b.till(e)
	for n := 0; n == 0 || b.m.Last() != load(plan.Epoch, e); n++ {
		if n > 100000 {
			b.t.Fatalf("the work of the epoch %d isn't done behind %d steps", e, n)
		}
		b.step()
	}
	same(b.t, "epoch", b.k.E, e)
}

// load is the touch of a word that is loaded.
func load(at int, w uint64) api.Touch {
	return api.Touch{Kind: api.TLoad, At: at, Was: w, Now: w}
}

// store is the touch of a word that is stored.
func store(at int, was, now uint64) api.Touch {
	return api.Touch{Kind: api.TStore, At: at, Was: was, Now: now}
}

// swap is the touch of a word that is swapped; one that isn't done leaves it as it was.
func swap(at int, was, now uint64) api.Touch {
	return api.Touch{Kind: api.TSwap, At: at, Was: was, Now: now}
}

// grow is the touch of the grays that become others.
func grow(was, now uint64) api.Touch {
	return api.Touch{Kind: api.TAdd, At: plan.Grays, Was: was, Now: now}
}

// same holds a thing against what it should be.
func same[N comparable](t *testing.T, what string, got, want N) {
	if got != want {
		t.Helper()
		t.Fatalf("%s: %v, want %v", what, got, want)
	}
}

// draw is the next of a row of numbers that looks like no order at all.
func draw(seed *uint64) int {
	*seed = *seed*6364136223846793005 + 1442695040888963407
	return int(*seed >> 33)
}
