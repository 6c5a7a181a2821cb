package heap_test

import (
	"math"
	"slices"
	"testing"

	"withy/api"
	"withy/head"
	"withy/heap"
	"withy/plan"
	"withy/tag"
)

// none is told where there is no slot.
const none = -1

// The words of a record's body.
const (
	value = 0
	stamp = 1
	older = 2
)

// config is one with so many slots, such an arity, so many clients and handles.
func config(slots, arity, clients, handles int) api.Config {
	return api.Config{Slots: slots, Arity: arity, Clients: clients, Handles: handles, Gens: 9, Stack: 2}
}

// least is the config with the least of everything.
func least() api.Config {
	return api.Config{Slots: 1, Clients: 1, Handles: 1, Gens: 1}
}

// greatest is the config with the most of everything.
func greatest() api.Config {
	return api.Config{Slots: 64, Arity: 8, Clients: 8, Handles: 16, Gens: api.MaxGens, Stack: 64}
}

// number is one of a config's, with its lowest and its highest.
type number struct {
	at        *int
	low, high int
}

// numbers are all that a config has.
func numbers(c *api.Config) []number {
	return []number{{&c.Slots, 1, 64}, {&c.Arity, 0, 8}, {&c.Clients, 1, 8}, {&c.Handles, 1, 16}, {&c.Gens, 1, 1 << 20}, {&c.Stack, 0, 64}}
}

// configs are right ones: the least and the greatest, and some in which one number is its lowest or its highest.
func configs() []api.Config {
	l := []api.Config{least(), greatest(), config(3, 1, 1, 3)}
	c := config(6, 3, 2, 3)
	for _, n := range numbers(&c) {
		was := *n.at
		for _, v := range []int{n.low, n.high} {
			*n.at = v
			l = append(l, c)
		}
		*n.at = was
	}
	return l
}

// wrongConfigs are configs in which one number is beyond its lowest or highest.
func wrongConfigs() []api.Config {
	l := []api.Config{{}}
	for _, c := range []api.Config{least(), config(3, 2, 2, 2), greatest()} {
		for _, n := range numbers(&c) {
			was := *n.at
			for _, v := range []int{n.low - 1, n.high + 1, math.MinInt, math.MaxInt} {
				*n.at = v
				l = append(l, c)
			}
			*n.at = was
		}
	}
	return l
}

// noNumbers are numbers of which there is no thing, where there are n, counted from 0.
func noNumbers(n int) []int {
	return []int{math.MinInt, math.MinInt + 1, -1 << 32, -64, -2, -1, n, n + 1, 64, 65, 1 << 16, 1 << 32, 1<<32 + 1, 1 << 62, math.MaxInt - 1, math.MaxInt}
}

// strangers are words that are no slot's number and 1: 0, what lies beyond a config's slots, and what has the bits of a slot's, and others.
func strangers(c api.Config) []uint64 {
	return []uint64{0, uint64(c.Slots) + 1, uint64(c.Slots) + 2, 1 << 16, 1<<16 + 1, 1 << 32, 1<<32 + 1, 1<<63 + 1, 1 << 63, math.MaxUint64}
}

// noHeaders are words that are no right header's, with the bits of a node or a record, and without.
func noHeaders() []uint64 {
	l := []uint64{5, 6, 7, math.MaxUint64, 3<<16 + 2<<5 + 8 + 7}
	for bit := 9; bit < 16; bit++ {
		l = append(l, 1<<bit, 1<<bit+2<<5+api.Node, 1<<bit+16+8+api.Record)
	}
	return l
}

// bodySize is how many words a slot's body has.
func bodySize(c api.Config) int {
	return max(c.Arity, 3)
}

// bench is words of a config's memory, laid by hand.
type bench struct {
	t     *testing.T
	c     api.Config
	words []uint64
}

// newBench is those of a memory in which nothing was done.
func newBench(t *testing.T, c api.Config) *bench {
	return &bench{t, c, plan.Memory(c).Words()}
}

// copy is words as these are.
func (k *bench) copy() *bench {
	return &bench{k.t, k.c, slices.Clone(k.words)}
}

// heads has a slot's header be this one.
func (k *bench) heads(slot int, h api.Header) {
	w, ok := head.Pack(h)
	if !ok {
		k.t.Helper()
		k.t.Fatalf("%+v isn't right", h)
	}
	k.words[plan.Header(k.c, slot)] = w
}

// node has a slot be a node, of as many fields as there are, that name these slots.
func (k *bench) node(slot int, fields ...int) {
	k.heads(slot, api.Header{Kind: api.Node, Arity: len(fields)})
	for i, to := range fields {
		k.words[plan.Body(k.c, slot, i)] = uint64(to + 1)
	}
}

// record has a slot be a record.
func (k *bench) record(slot, val int, stamped uint64, next int) {
	k.heads(slot, api.Header{Kind: api.Record})
	k.words[plan.Body(k.c, slot, value)] = uint64(val + 1)
	k.words[plan.Body(k.c, slot, stamp)] = stamped
	k.words[plan.Body(k.c, slot, older)] = uint64(next + 1)
}

// holds has a client's entry hold a slot, with a tag.
func (k *bench) holds(who, entry, slot int) {
	w, _ := tag.Entry(7, slot)
	k.words[plan.Entry(k.c, who, entry)] = w
}

// starts has a client's walk's start be a slot.
func (k *bench) starts(who, slot int) {
	k.words[plan.Start(k.c, who)] = uint64(slot + 1)
}

// views has a client's view word be this one.
func (k *bench) views(who int, w uint64) {
	k.words[plan.View(k.c, who)] = w
}

// clock has the clock be this.
func (k *bench) clock(w uint64) {
	k.words[plan.Clock] = w
}

// lists has the free list be these slots.
func (k *bench) lists(slots ...int) {
	last := plan.Top
	for i, slot := range slots {
		k.words[last] = uint64(slot + 1)
		if i == 0 {
			k.words[last] += 5 << 16 // the top's tag
		}
		last = plan.Link(k.c, slot)
	}
	k.words[last] = 0
}

// listed are the numbers of the true ones.
func listed(is []bool) []int {
	var l []int
	for i, yes := range is {
		if yes {
			l = append(l, i)
		}
	}
	return l
}

// which holds an answer, of as many as there are slots, against the slots that it should have.
func (k *bench) which(what string, got []bool, want []int) {
	if len(got) != k.c.Slots || !slices.Equal(listed(got), want) {
		k.t.Helper()
		k.t.Fatalf("%s: %v of %d, want %v of %d", what, listed(got), len(got), want, k.c.Slots)
	}
}

// reached holds the slots that are reached against those that should be, and is sure that no more are needed.
func (k *bench) reached(want ...int) {
	k.t.Helper()
	k.which("Reached", heap.Reached(k.c, k.words), want)
	for _, slot := range listed(heap.Needed(k.c, k.words)) {
		if !slices.Contains(want, slot) {
			k.t.Fatalf("the slot %d is needed, and not reached", slot)
		}
	}
}

// needed holds the slots that are needed against those that should be.
func (k *bench) needed(want ...int) {
	k.t.Helper()
	k.which("Needed", heap.Needed(k.c, k.words), want)
}

// check holds what Check answers against what it should.
func (k *bench) check(want int) {
	if got := heap.Check(k.c, k.words); got != want {
		k.t.Helper()
		k.t.Fatalf("Check: %d, want %d", got, want)
	}
}

// fields holds what a node's fields have against what they should.
func (k *bench) fields(slot int, want ...int) {
	if got := heap.Fields(k.c, k.words, slot); !slices.Equal(got, want) {
		k.t.Helper()
		k.t.Fatalf("Fields of %d: %v, want %v", slot, got, want)
	}
}

// same holds a thing against what it should be.
func same[N comparable](t *testing.T, what string, got, want N) {
	if got != want {
		t.Helper()
		t.Fatalf("%s: %v, want %v", what, got, want)
	}
}

// draw is the next of a row of numbers that looks like no order at all, below n.
func draw(seed *uint64, n int) int {
	*seed = *seed*6364136223846793005 + 1442695040888963407
	return int(*seed>>33) % n
}
