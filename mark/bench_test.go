package mark_test

import (
	"math"
	"slices"
	"testing"

	"withy/api"
	"withy/head"
	"withy/mark"
	"withy/mem"
	"withy/plan"
)

// none is told where there is no slot.
const none = -1

// The words of a record's body.
const (
	value = 0
	stamp = 1
	older = 2
)

// config is one with so many slots, of which so many can wait, and the least of all else but arity.
func config(slots, stack int) api.Config {
	return api.Config{Slots: slots, Arity: 2, Clients: 1, Handles: 1, Gens: 9, Stack: stack}
}

// greatest is the config with the most of everything.
func greatest() api.Config {
	return api.Config{Slots: 64, Arity: 8, Clients: 8, Handles: 16, Gens: api.MaxGens, Stack: 64}
}

// configs are right ones, with the words at unlike places, bodies of all sizes, from one slot to all, and from none that can wait to more than there are slots.
func configs() []api.Config {
	l := []api.Config{config(1, 0), config(1, 1), config(2, 1), config(63, 3), greatest()}
	for arity := range api.MaxArity + 1 {
		l = append(l, api.Config{Slots: 5, Arity: arity, Clients: 2, Handles: 3, Gens: 7, Stack: arity})
	}
	return l
}

// wrongConfigs are configs in which one number is beyond its lowest or highest.
func wrongConfigs() []api.Config {
	l := []api.Config{{}}
	for _, c := range []api.Config{config(3, 1), greatest()} {
		for _, n := range []struct {
			at        *int
			low, high int
		}{{&c.Slots, 1, 64}, {&c.Arity, 0, 8}, {&c.Clients, 1, 8}, {&c.Handles, 1, 16}, {&c.Gens, 1, 1 << 20}, {&c.Stack, 0, 64}} {
			was := *n.at
			for _, v := range []int{n.low - 1, n.high + 1, math.MinInt, math.MaxInt} {
				*n.at = v
				l = append(l, c)
			}
			*n.at = was
		}
	}
	return l
}

// epochs are of all phases, of cycles with even and odd numbers, small and great.
func epochs() []uint64 {
	return []uint64{0, 1, 2, 3, 4, 5, 6, 7, 8, 1<<31 - 1, 1 << 31, 1<<32 + 6, 1 << 63, math.MaxUint64}
}

// bodySize is how many words a slot's body has.
func bodySize(c api.Config) int {
	return max(c.Arity, 3)
}

// black is the mark of what is found in an epoch.
func black(e uint64) int {
	return 1 - int(e>>2&1)
}

// noHeaders are words that are no right header's, with the bits of a node or a record that is gray, and without.
func noHeaders() []uint64 {
	l := []uint64{math.MaxUint64}
	for kind := range uint64(3) {
		l = append(l, 5+kind, 16+5+kind, 1<<16+2<<5+16+5+kind)
	}
	for bit := 9; bit < 16; bit++ {
		l = append(l, 1<<bit+api.Node, 1<<bit+16+2<<5+api.Node, 1<<bit+16+8+api.Record)
	}
	return l
}

// strangers are words that are no slot's number and 1: 0, what lies beyond a config's slots, and what has the bits of a slot's, and others.
func strangers(c api.Config) []uint64 {
	return []uint64{0, uint64(c.Slots) + 1, uint64(c.Slots) + 2, 1 << 16, 1<<16 + 1, 1 << 32, 1<<32 + 1, 1<<63 + 1, 1 << 63, math.MaxUint64}
}

// bench is a memory in which machines take steps.
type bench struct {
	t *testing.T
	c api.Config
	m *mem.Mem
}

func newBench(t *testing.T, c api.Config) *bench {
	return &bench{t: t, c: c, m: plan.Memory(c)}
}

// header is a header's word.
func (k *bench) header(h api.Header) uint64 {
	w, ok := head.Pack(h)
	if !ok {
		k.t.Helper()
		k.t.Fatalf("%+v isn't right", h)
	}
	return w
}

// heads has a slot's header be this one.
func (k *bench) heads(slot int, h api.Header) {
	k.m.Store(plan.Header(k.c, slot), k.header(h))
}

// head is the word of a slot's header.
func (k *bench) head(slot int) uint64 {
	return k.m.Words()[plan.Header(k.c, slot)]
}

// node has a slot be a node, of as many fields as there are, that name these slots.
func (k *bench) node(slot int, fields ...int) {
	k.heads(slot, api.Header{Kind: api.Node, Arity: len(fields)})
	for i, to := range fields {
		k.m.Store(plan.Body(k.c, slot, i), uint64(to+1))
	}
}

// record has a slot be a record.
func (k *bench) record(slot, val int, stamped uint64, next int) {
	k.heads(slot, api.Header{Kind: api.Record})
	k.m.Store(plan.Body(k.c, slot, value), uint64(val+1))
	k.m.Store(plan.Body(k.c, slot, stamp), stamped)
	k.m.Store(plan.Body(k.c, slot, older), uint64(next+1))
}

// holds has a client's entry hold a slot, with a tag.
func (k *bench) holds(who, entry, slot int) {
	k.m.Store(plan.Entry(k.c, who, entry), 7<<32+uint64(slot+1))
}

// grays has slots be gray, and marked in the epoch 2, and be counted.
func (k *bench) grays(slots ...int) {
	for _, slot := range slots {
		k.m.Store(plan.Header(k.c, slot), k.head(slot)|16|8)
	}
	k.m.Store(plan.Grays, uint64(len(slots)))
}

// marked is which slots are marked in an epoch.
func (k *bench) marked(e uint64) []int {
	var l []int
	for slot := range k.c.Slots {
		if head.Marked(k.head(slot), e) {
			l = append(l, slot)
		}
	}
	return l
}

// isMarked holds the slots that are marked in an epoch against those that should be.
func (k *bench) isMarked(e uint64, want ...int) {
	if got := k.marked(e); !slices.Equal(got, want) {
		k.t.Helper()
		k.t.Fatalf("marked are %v, want %v", got, want)
	}
}

// word holds a word against what it should be.
func (k *bench) word(at int, want uint64) {
	if got := k.m.Words()[at]; got != want {
		k.t.Helper()
		k.t.Fatalf("the word at %d is %x, want %x", at, got, want)
	}
}

// step has a machine take one step, and holds what it answers, and the one touch it does, against what it should.
func (k *bench) step(s mem.Machine, done bool, touch api.Touch) {
	before := k.m.Touches()
	if got := s.Step(k.m); got != done {
		k.t.Helper()
		k.t.Fatalf("Step: %v, want %v (last touch %+v)", got, done, k.m.Last())
	}
	if k.m.Touches() != before+1 || k.m.Last() != touch {
		k.t.Helper()
		k.t.Fatalf("%d touches, the last %+v, want one, %+v", k.m.Touches()-before, k.m.Last(), touch)
	}
}

// steps has a machine take steps, of which none is the last, and holds the place and the kind of each one's touch against what it should be.
func (k *bench) steps(s mem.Machine, touches ...[2]int) {
	for i, want := range touches {
		before := k.m.Touches()
		done := s.Step(k.m)
		last := k.m.Last()
		if done || k.m.Touches() != before+1 || [2]int{last.Kind, last.At} != want {
			k.t.Helper()
			k.t.Fatalf("the step %d: done %v, %d touches, the last %+v, want the kind and the place %v", i, done, k.m.Touches()-before, last, want)
		}
	}
}

// What steps are told as: the kind of the touch, and the place.
func (k *bench) clock() [2]int            { return [2]int{api.TLoad, plan.Clock} }
func (k *bench) view(who int) [2]int      { return [2]int{api.TLoad, plan.View(k.c, who)} }
func (k *bench) entry(who, i int) [2]int  { return [2]int{api.TLoad, plan.Entry(k.c, who, i)} }
func (k *bench) start(who int) [2]int     { return [2]int{api.TLoad, plan.Start(k.c, who)} }
func (k *bench) looks(slot int) [2]int    { return [2]int{api.TLoad, plan.Header(k.c, slot)} }
func (k *bench) swaps(slot int) [2]int    { return [2]int{api.TSwap, plan.Header(k.c, slot)} }
func (k *bench) loads(slot, i int) [2]int { return [2]int{api.TLoad, plan.Body(k.c, slot, i)} }
func (k *bench) cuts(slot int) [2]int     { return [2]int{api.TStore, plan.Body(k.c, slot, older)} }
func (k *bench) counts() [2]int           { return [2]int{api.TAdd, plan.Grays} }
func (k *bench) asks() [2]int             { return [2]int{api.TLoad, plan.Grays} }

// begins has a Mark take the steps of the clock and the views.
func (k *bench) begins(s *mark.Mark) {
	k.t.Helper()
	k.steps(s, k.clock())
	for who := range k.c.Clients {
		k.steps(s, k.view(who))
	}
}

// shades has a Mark take the steps in which a slot grows gray.
func (k *bench) shades(s *mark.Mark, slot int) {
	k.t.Helper()
	k.steps(s, k.looks(slot), k.counts(), k.swaps(slot))
}

// blackens has a Mark take the steps in which a slot is gray no more.
func (k *bench) blackens(s *mark.Mark, slot int) {
	k.t.Helper()
	k.steps(s, k.swaps(slot), k.counts())
}

// ends takes steps till the work is done, and is how many.
func (k *bench) ends(s mem.Machine) int {
	for n := range 100000 {
		if s.Step(k.m) {
			return n + 1
		}
	}
	k.t.Helper()
	k.t.Fatal("the work isn't done behind 100000 steps")
	return 0
}

// over asks a machine whose work is done for more steps: nothing is done any more.
func (k *bench) over(s mem.Machine) {
	touches := k.m.Touches()
	for range 3 {
		if !s.Step(k.m) {
			k.t.Helper()
			k.t.Fatal("Step behind the last one: false")
		}
	}
	if k.m.Touches() != touches {
		k.t.Helper()
		k.t.Fatalf("steps behind the last one: %d touches", k.m.Touches()-touches)
	}
}

// marks has a Mark work from its first step to its last.
func (k *bench) marks(e uint64) *mark.Mark {
	k.t.Helper()
	s := mark.NewMark(k.c, e)
	k.ends(s)
	k.over(s)
	return s
}

// load is the touch of a word that is loaded.
func load(at int, w uint64) api.Touch {
	return api.Touch{Kind: api.TLoad, At: at, Was: w, Now: w}
}

// store is the touch of a word that is stored.
func store(at int, was, now uint64) api.Touch {
	return api.Touch{Kind: api.TStore, At: at, Was: was, Now: now}
}

// swap is the touch of a word that is swapped; one that isn't done leaves it as it was.
func swap(at int, was, now uint64) api.Touch {
	return api.Touch{Kind: api.TSwap, At: at, Was: was, Now: now}
}

// grow is the touch of the grays that become others.
func grow(was, now uint64) api.Touch {
	return api.Touch{Kind: api.TAdd, At: plan.Grays, Was: was, Now: now}
}

// isMark holds what a Mark tells against what it should.
func isMark(t *testing.T, s *mark.Mark, passes, cuts int) {
	if s.Passes != passes || s.Cuts != cuts {
		t.Helper()
		t.Fatalf("Passes %d, Cuts %d, want %d, %d", s.Passes, s.Cuts, passes, cuts)
	}
}

// same holds a thing against what it should be.
func same[N comparable](t *testing.T, what string, got, want N) {
	if got != want {
		t.Helper()
		t.Fatalf("%s: %v, want %v", what, got, want)
	}
}

// draw is the next of a row of numbers that looks like no order at all.
func draw(seed *uint64) int {
	*seed = *seed*6364136223846793005 + 1442695040888963407
	return int(*seed >> 33)
}
