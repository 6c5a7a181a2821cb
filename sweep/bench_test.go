package sweep_test

import (
	"math"
	"slices"
	"testing"

	"withy/api"
	"withy/head"
	"withy/mem"
	"withy/plan"
	"withy/stack"
	"withy/sweep"
)

// none is told where there is no slot.
const none = -1

// What a top's bits are: the tag times this, and the slot's number and 1.
const perTag = 1 << 16

// config is one with so many slots and generations, and the least of all else.
func config(slots, gens int) api.Config {
	return api.Config{Slots: slots, Clients: 1, Handles: 1, Gens: gens}
}

// greatest is the config with the most of everything.
func greatest() api.Config {
	return api.Config{Slots: 64, Arity: 8, Clients: 8, Handles: 16, Gens: api.MaxGens, Stack: 64}
}

// configs are right ones, with the words at unlike places, bodies of all sizes, and from one slot to all.
func configs() []api.Config {
	l := []api.Config{config(1, 1), config(1, 2), config(2, 2), config(63, 3), greatest()}
	for arity := range api.MaxArity + 1 {
		l = append(l, api.Config{Slots: 6, Arity: arity, Clients: 2, Handles: 3, Gens: 1 + arity, Stack: arity})
	}
	return l
}

// wrongConfigs are configs in which one number is beyond its lowest or highest.
func wrongConfigs() []api.Config {
	l := []api.Config{{}}
	for _, c := range []api.Config{config(3, 1), greatest()} {
		for _, n := range []struct {
			at        *int
			low, high int
		}{{&c.Slots, 1, 64}, {&c.Arity, 0, 8}, {&c.Clients, 1, 8}, {&c.Handles, 1, 16}, {&c.Gens, 1, 1 << 20}, {&c.Stack, 0, 64}} {
			was := *n.at
			for _, v := range []int{n.low - 1, n.high + 1, math.MinInt, math.MaxInt} {
				*n.at = v
				l = append(l, c)
			}
			*n.at = was
		}
	}
	return l
}

// epochs are of all phases, of cycles with even and odd numbers, small and great, with low bits of all sorts.
func epochs() []uint64 {
	return []uint64{0, 1, 2, 3, 4, 5, 6, 7, 8, 1<<16 - 1, 1 << 16, 1<<16 + 3, 1<<31 - 1, 1 << 31, 1<<32 + 6, 1 << 63, math.MaxUint64}
}

// black is the mark of what is found in an epoch.
func black(e uint64) int {
	return 1 - int(e>>2&1)
}

// noHeaders are words that are no right header's, with the bits of nodes, records and of what is in limbo among them.
func noHeaders() []uint64 {
	l := []uint64{math.MaxUint64}
	for kind := range uint64(3) {
		l = append(l, 5+kind, 1<<16+16+5+kind)
	}
	for bit := 9; bit < 16; bit++ {
		l = append(l, 1<<bit+api.Node, 1<<bit+8+api.Record, 1<<bit+api.Limbo, 1<<16+1<<bit+api.Limbo)
	}
	return l
}

// bench is a memory in which machines take steps.
type bench struct {
	t *testing.T
	c api.Config
	m *mem.Mem
}

// newBench is one with a free list that is empty, so that slots can be made whatever a test needs.
func newBench(t *testing.T, c api.Config) *bench {
	k := &bench{t: t, c: c, m: plan.Memory(c)}
	k.m.Store(plan.Top, 0)
	return k
}

// header is a header's word.
func (k *bench) header(h api.Header) uint64 {
	w, ok := head.Pack(h)
	if !ok {
		k.t.Helper()
		k.t.Fatalf("%+v isn't right", h)
	}
	return w
}

// heads has a slot's header be this one.
func (k *bench) heads(slot int, h api.Header) {
	k.m.Store(plan.Header(k.c, slot), k.header(h))
}

// is holds a slot's header against what it should be.
func (k *bench) is(slot int, want api.Header) {
	w := k.m.Words()[plan.Header(k.c, slot)]
	if w != k.header(want) {
		k.t.Helper()
		k.t.Fatalf("the slot %d's header is %x, want %+v", slot, w, want)
	}
}

// has holds the free list against what it should be.
func (k *bench) has(want ...int) {
	if got := stack.List(k.c, k.m.Words()); !slices.Equal(got, want) {
		k.t.Helper()
		k.t.Fatalf("the free list is %v, want %v", got, want)
	}
}

// kinds is how many slots are of a kind.
func (k *bench) kinds(kind int) int {
	n := 0
	for slot := range k.c.Slots {
		if h, ok := head.Unpack(k.m.Words()[plan.Header(k.c, slot)]); ok && h.Kind == kind {
			n++
		}
	}
	return n
}

// step has a machine take one step, and holds what it answers, and the one touch it does, against what it should.
func (k *bench) step(s mem.Machine, done bool, touch api.Touch) {
	before := k.m.Touches()
	if got := s.Step(k.m); got != done {
		k.t.Helper()
		k.t.Fatalf("Step: %v, want %v (last touch %+v)", got, done, k.m.Last())
	}
	if k.m.Touches() != before+1 || k.m.Last() != touch {
		k.t.Helper()
		k.t.Fatalf("%d touches, the last %+v, want one, %+v", k.m.Touches()-before, k.m.Last(), touch)
	}
}

// ends takes steps till the work is done, and is how many.
func (k *bench) ends(s mem.Machine) int {
	for n := range 10000 {
		if s.Step(k.m) {
			return n + 1
		}
	}
	k.t.Helper()
	k.t.Fatal("the work isn't done behind 10000 steps")
	return 0
}

// over asks a machine whose work is done for more steps: nothing is done any more.
func (k *bench) over(s mem.Machine) {
	touches := k.m.Touches()
	for range 3 {
		if !s.Step(k.m) {
			k.t.Helper()
			k.t.Fatal("Step behind the last one: false")
		}
	}
	if k.m.Touches() != touches {
		k.t.Helper()
		k.t.Fatalf("steps behind the last one: %d touches", k.m.Touches()-touches)
	}
}

// sweeps has a Sweep work from its first step to its last, and is how many are gone.
func (k *bench) sweeps(e uint64) int {
	k.t.Helper()
	s := sweep.NewSweep(k.c, e)
	k.ends(s)
	k.over(s)
	return s.Gone
}

// reclaims has a Reclaim work from its first step to its last, and is how many came back, and are dead.
func (k *bench) reclaims() (back, gone int) {
	k.t.Helper()
	r := sweep.NewReclaim(k.c)
	k.ends(r)
	k.over(r)
	return r.Back, r.Gone
}

// load is the touch of a word that is loaded.
func load(at int, w uint64) api.Touch {
	return api.Touch{Kind: api.TLoad, At: at, Was: w, Now: w}
}

// store is the touch of a word that is stored.
func store(at int, was, now uint64) api.Touch {
	return api.Touch{Kind: api.TStore, At: at, Was: was, Now: now}
}

// swap is the touch of a word that is swapped; one that isn't done leaves it as it was.
func swap(at int, was, now uint64) api.Touch {
	return api.Touch{Kind: api.TSwap, At: at, Was: was, Now: now}
}

// isReclaim holds what a Reclaim tells against what it should.
func isReclaim(t *testing.T, r *sweep.Reclaim, back, gone int) {
	if r.Back != back || r.Gone != gone {
		t.Helper()
		t.Fatalf("Back %d, Gone %d, want %d, %d", r.Back, r.Gone, back, gone)
	}
}

// same holds a thing against what it should be.
func same[N comparable](t *testing.T, what string, got, want N) {
	if got != want {
		t.Helper()
		t.Fatalf("%s: %v, want %v", what, got, want)
	}
}

// draw is the next of a row of numbers that looks like no order at all.
func draw(seed *uint64) int {
	*seed = *seed*6364136223846793005 + 1442695040888963407
	return int(*seed >> 33)
}
