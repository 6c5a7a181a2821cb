package arena_test

import (
	"math"
	"slices"
	"testing"

	"withy/api"
	"withy/arena"
	"withy/head"
	"withy/mem"
	"withy/plan"
	"withy/stack"
)

// none is told where there is no slot.
const none = -1

// What a top's bits are: the tag times this, and the slot's number and 1.
const perTag = 1 << 16

// config is one with so many slots and generations, and the least of all else.
func config(slots, gens int) api.Config {
	return api.Config{Slots: slots, Clients: 1, Handles: 1, Gens: gens}
}

// greatest is the config with the most of everything.
func greatest() api.Config {
	return api.Config{Slots: 64, Arity: 8, Clients: 8, Handles: 16, Gens: api.MaxGens, Stack: 64}
}

// configs are right ones, with the words at unlike places, bodies of all sizes, and from one slot to all.
func configs() []api.Config {
	l := []api.Config{config(1, 1), config(2, 2), config(63, 3), greatest()}
	for arity := range api.MaxArity + 1 {
		l = append(l, api.Config{Slots: 3, Arity: arity, Clients: 2, Handles: 3, Gens: 7, Stack: 9})
	}
	return l
}

// wrongConfigs are configs in which one number is beyond its lowest or highest.
func wrongConfigs() []api.Config {
	l := []api.Config{{}}
	for _, c := range []api.Config{config(3, 1), greatest()} {
		for _, n := range []struct {
			at        *int
			low, high int
		}{{&c.Slots, 1, 64}, {&c.Arity, 0, 8}, {&c.Clients, 1, 8}, {&c.Handles, 1, 16}, {&c.Gens, 1, 1 << 20}, {&c.Stack, 0, 64}} {
			was := *n.at
			for _, v := range []int{n.low - 1, n.high + 1, math.MinInt, math.MaxInt} {
				*n.at = v
				l = append(l, c)
			}
			*n.at = was
		}
	}
	return l
}

// epochs are of all phases, of cycles with even and odd numbers, small and great.
func epochs() []uint64 {
	return []uint64{0, 1, 2, 3, 4, 5, 6, 7, 8, 1<<31 - 1, 1 << 31, 1<<32 + 6, 1 << 63, math.MaxUint64}
}

// bodySize is how many words a slot's body has.
func bodySize(c api.Config) int {
	return max(c.Arity, 3)
}

// born is the mark of what is made in an epoch: the black one of its cycle, but in rest the other one.
func born(e uint64) int {
	black := 1 - int(e>>2&1)
	if e%4 == 0 {
		return 1 - black
	}
	return black
}

// header is a header's word.
func header(t *testing.T, h api.Header) uint64 {
	w, ok := head.Pack(h)
	if !ok {
		t.Helper()
		t.Fatalf("%+v isn't right", h)
	}
	return w
}

// noHeaders are words that are no right header's, with bits where the generation would be.
func noHeaders() []uint64 {
	l := []uint64{math.MaxUint64, math.MaxUint64 - 4}
	for kind := range uint64(3) {
		l = append(l, 5<<16+5+kind, 5+kind)
	}
	for bit := 9; bit < 16; bit++ {
		l = append(l, 6<<16+1<<bit, 6<<16+1<<bit+api.Limbo, 1<<bit)
	}
	return l
}

// bench is a memory in which machines take steps.
type bench struct {
	t *testing.T
	c api.Config
	m *mem.Mem
}

func newBench(t *testing.T, c api.Config) *bench {
	return &bench{t: t, c: c, m: plan.Memory(c)}
}

// lists has the free list be these slots, and its top have a tag.
func (k *bench) lists(tag uint64, slots ...int) {
	at, above := plan.Top, tag*perTag
	for _, slot := range slots {
		k.m.Store(at, above+uint64(slot)+1)
		at, above = plan.Link(k.c, slot), 0
	}
	k.m.Store(at, above)
}

// heads has a slot's header be this one.
func (k *bench) heads(slot int, h api.Header) {
	k.m.Store(plan.Header(k.c, slot), header(k.t, h))
}

// has holds the free list against what it should be.
func (k *bench) has(want ...int) {
	if got := stack.List(k.c, k.m.Words()); !slices.Equal(got, want) {
		k.t.Helper()
		k.t.Fatalf("the free list is %v, want %v", got, want)
	}
}

// is holds a slot's header against what it should be.
func (k *bench) is(slot int, want api.Header) {
	w := k.m.Words()[plan.Header(k.c, slot)]
	if w != header(k.t, want) {
		k.t.Helper()
		k.t.Fatalf("the slot %d's header is %x, want %+v", slot, w, want)
	}
}

// step has a machine take one step, and holds what it answers, and the one touch it does, against what it should.
func (k *bench) step(s mem.Machine, done bool, touch api.Touch) {
	before := k.m.Touches()
	if got := s.Step(k.m); got != done {
		k.t.Helper()
		k.t.Fatalf("Step: %v, want %v (last touch %+v)", got, done, k.m.Last())
	}
	if k.m.Touches() != before+1 || k.m.Last() != touch {
		k.t.Helper()
		k.t.Fatalf("%d touches, the last %+v, want one, %+v", k.m.Touches()-before, k.m.Last(), touch)
	}
}

// ends takes steps till the work is done, and is how many.
func (k *bench) ends(s mem.Machine) int {
	for n := range 1000 {
		if s.Step(k.m) {
			return n + 1
		}
	}
	k.t.Helper()
	k.t.Fatal("the work isn't done behind 1000 steps")
	return 0
}

// over asks a machine whose work is done for more steps: nothing is done any more.
func (k *bench) over(s mem.Machine) {
	touches := k.m.Touches()
	for range 3 {
		if !s.Step(k.m) {
			k.t.Helper()
			k.t.Fatal("Step behind the last one: false")
		}
	}
	if k.m.Touches() != touches {
		k.t.Helper()
		k.t.Fatalf("steps behind the last one: %d touches", k.m.Touches()-touches)
	}
}

// makes has a slot be made something, all at once, and is the slot.
func (k *bench) makes(kind int) int {
	a := arena.NewMake(k.c, kind, 0, 0, nil)
	k.ends(a)
	return a.Slot
}

// retires sends a slot to limbo.
func (k *bench) retires(slot int) {
	at := plan.Header(k.c, slot)
	h, ok := head.Unpack(k.m.Load(at))
	if !ok {
		k.t.Helper()
		k.t.Fatalf("the slot %d has no right header", slot)
	}
	h.Kind = api.Limbo
	k.heads(slot, h)
}

// frees has a slot be freed, all at once, and is what the machine tells.
func (k *bench) frees(slot int) (back, gone bool) {
	f := arena.NewFree(k.c, slot)
	k.ends(f)
	return f.Back, f.Gone
}

// load is the touch of a word that is loaded.
func load(at int, w uint64) api.Touch {
	return api.Touch{Kind: api.TLoad, At: at, Was: w, Now: w}
}

// store is the touch of a word that is stored.
func store(at int, was, now uint64) api.Touch {
	return api.Touch{Kind: api.TStore, At: at, Was: was, Now: now}
}

// swap is the touch of a top that is swapped; one that isn't done leaves it as it was.
func swap(was, now uint64) api.Touch {
	return api.Touch{Kind: api.TSwap, At: plan.Top, Was: was, Now: now}
}

// isMake holds what a Make tells against what it should.
func isMake(t *testing.T, a *arena.Make, slot int, full bool) {
	if a.Slot != slot || a.Full != full {
		t.Helper()
		t.Fatalf("Slot %d, Full %v, want %d, %v", a.Slot, a.Full, slot, full)
	}
}

// isFree holds what a Free tells against what it should.
func isFree(t *testing.T, f *arena.Free, back, gone bool) {
	if f.Back != back || f.Gone != gone {
		t.Helper()
		t.Fatalf("Back %v, Gone %v, want %v, %v", f.Back, f.Gone, back, gone)
	}
}

// same holds a thing against what it should be.
func same[N comparable](t *testing.T, what string, got, want N) {
	if got != want {
		t.Helper()
		t.Fatalf("%s: %v, want %v", what, got, want)
	}
}
