package world_test

import (
	"math"
	"slices"
	"testing"

	"withy/api"
	"withy/head"
	"withy/heap"
	"withy/plan"
	"withy/stack"
	"withy/world"
)

// none is told where there is no slot.
const none = -1

// config is one with so many slots, such an arity, so many clients and handles.
func config(slots, arity, clients, handles int) api.Config {
	return api.Config{Slots: slots, Arity: arity, Clients: clients, Handles: handles, Gens: 9, Stack: 2}
}

// least is the config with the least of everything.
func least() api.Config {
	return api.Config{Slots: 1, Clients: 1, Handles: 1, Gens: 1}
}

// greatest is the config with the most of everything.
func greatest() api.Config {
	return api.Config{Slots: 64, Arity: 8, Clients: 8, Handles: 16, Gens: api.MaxGens, Stack: 64}
}

// number is one of a config's, with its lowest and its highest.
type number struct {
	at        *int
	low, high int
}

// numbers are all that a config has.
func numbers(c *api.Config) []number {
	return []number{{&c.Slots, 1, 64}, {&c.Arity, 0, 8}, {&c.Clients, 1, 8}, {&c.Handles, 1, 16}, {&c.Gens, 1, 1 << 20}, {&c.Stack, 0, 64}}
}

// configs are right ones: the least and the greatest, and some in which one number is its lowest or its highest.
func configs() []api.Config {
	l := []api.Config{least(), greatest(), config(3, 1, 1, 3)}
	c := config(6, 3, 2, 3)
	for _, n := range numbers(&c) {
		was := *n.at
		for _, v := range []int{n.low, n.high} {
			*n.at = v
			l = append(l, c)
		}
		*n.at = was
	}
	return l
}

// wrongConfigs are configs in which one number is beyond its lowest or highest.
func wrongConfigs() []api.Config {
	l := []api.Config{{}}
	for _, c := range []api.Config{least(), config(3, 2, 2, 2), greatest()} {
		for _, n := range numbers(&c) {
			was := *n.at
			for _, v := range []int{n.low - 1, n.high + 1, math.MinInt, math.MaxInt} {
				*n.at = v
				l = append(l, c)
			}
			*n.at = was
		}
	}
	return l
}

// The arguments.

// own is what the client's operation of that number was answered.
func own(i int) api.Arg {
	return api.Arg{Of: i, Client: -1}
}

// of is what a client's operation was answered.
func of(who, i int) api.Arg {
	return api.Arg{Of: i, Client: who}
}

// raw is a raw number.
func raw(v uint64) api.Arg {
	return api.Arg{Of: -1, Raw: v}
}

// The operations, by their kinds.

func makes(arity int) api.Op {
	return api.Op{Kind: api.New, N: arity}
}

func load(h api.Arg, i int) api.Op {
	return api.Op{Kind: api.Load, N: i, H: h}
}

func link(h api.Arg, i int, x api.Arg) api.Op {
	return api.Op{Kind: api.Link, N: i, H: h, X: x}
}

func unlink(h api.Arg, i int) api.Op {
	return api.Op{Kind: api.Unlink, N: i, H: h}
}

func swap(h api.Arg, i int, x, y api.Arg) api.Op {
	return api.Op{Kind: api.Swap, N: i, H: h, X: x, Y: y}
}

func release(h api.Arg) api.Op {
	return api.Op{Kind: api.Release, H: h}
}

func compare(h, x api.Arg) api.Op {
	return api.Op{Kind: api.Same, H: h, X: x}
}

func opens(h api.Arg) api.Op {
	return api.Op{Kind: api.Open, H: h}
}

func next(h api.Arg) api.Op {
	return api.Op{Kind: api.Next, H: h}
}

func closes(h api.Arg) api.Op {
	return api.Op{Kind: api.Close, H: h}
}

// The answers.

var (
	ok  = api.Answer{}
	yes = api.Answer{Yes: true}
)

// only is the answer that tells an error.
func only(err api.Errno) api.Answer {
	return api.Answer{Err: err}
}

// gives is the answer that gives a handle.
func gives(h uint64) api.Answer {
	return api.Answer{H: h}
}

// handle is a client's handle of an entry, with a tag; the entry 255 is a walk's.
func handle(who, entry int, tag uint64) uint64 {
	return uint64(who+1)<<56 + uint64(entry)<<48 + tag
}

// bench is a world that is picked.
type bench struct {
	t *testing.T
	c api.Config
	w *world.World
}

// newBench is one in which nothing was done.
func newBench(t *testing.T, c api.Config, programs ...[]api.Op) *bench {
	t.Helper()
	w := world.New(c, programs)
	if w == nil {
		t.Fatalf("New(%+v, %v): nil", c, programs)
	}
	return &bench{t, c, w}
}

// collector is the number by which the collector is picked.
func (k *bench) collector() int {
	return k.c.Clients
}

// pick has one go a step on, who must.
func (k *bench) pick(who int) {
	k.t.Helper()
	now := k.w.Now()
	same(k.t, "Pick", k.w.Pick(who), true)
	same(k.t, "Now", k.w.Now(), now+1)
}

// refuses has a pick be of nobody who could go on: nothing is done.
func (k *bench) refuses(who int) {
	k.t.Helper()
	was := k.all()
	same(k.t, "Pick", k.w.Pick(who), false)
	was.isAll(k)
}

// picks has one go some steps on.
func (k *bench) picks(who, n int) {
	k.t.Helper()
	for range n {
		k.pick(who)
	}
}

// ends has a client go on till its call is over; it begins one, if none is under way. It is how many steps.
func (k *bench) ends(who int) int {
	k.t.Helper()
	events := len(k.w.Events())
	for n := range 100000 {
		k.pick(who)
		if len(k.w.Events()) > events {
			same(k.t, "Busy", k.w.Busy(who), false)
			return n + 1
		}
		same(k.t, "Busy", k.w.Busy(who), true)
	}
	k.t.Fatal("the call isn't over behind 100000 steps")
	return 0
}

// answers has a client do as many operations, alone, and holds what they are answered against what they should.
func (k *bench) answers(who int, l ...api.Answer) {
	k.t.Helper()
	for _, want := range l {
		k.ends(who)
		e := k.last()
		if e.Client != who || e.Answer != want {
			k.t.Fatalf("%+v, want the answer %+v", e, want)
		}
	}
}

// last is the last event.
func (k *bench) last() api.Event {
	l := k.w.Events()
	return l[len(l)-1]
}

// alone has a client do its whole program, alone, and is its answers.
func (k *bench) alone(who int) []api.Answer {
	k.t.Helper()
	var l []api.Answer
	for range 1000000 {
		if !k.w.Pick(who) {
			for _, e := range k.w.Events() {
				if e.Client == who {
					l = append(l, e.Answer)
				}
			}
			return l
		}
	}
	k.t.Fatal("the program isn't done behind 1000000 steps")
	return nil
}

// epochs has the collector go on till it is in an epoch.
func (k *bench) epochs(e uint64) {
	k.t.Helper()
	for n := 0; k.w.Epoch() < e; n++ {
		k.pick(k.collector())
		if n > 100000 {
			k.t.Fatalf("the collector is in the epoch %d, and comes to no other one", k.w.Epoch())
		}
	}
	same(k.t, "Epoch", k.w.Epoch(), e)
}

// rests has the world rest.
func (k *bench) rests() {
	k.t.Helper()
	same(k.t, "Rest", k.w.Rest(), true)
}

// head is what a slot's header says.
func (k *bench) head(slot int) api.Header {
	h, ok := head.Unpack(k.w.Words()[plan.Header(k.c, slot)])
	if !ok {
		k.t.Helper()
		k.t.Fatalf("the slot %d's header isn't right", slot)
	}
	return h
}

// isFree holds a slot against a free one of a generation, in the free list.
func (k *bench) isFree(slot, gen int) {
	k.t.Helper()
	same(k.t, "the header", k.head(slot), api.Header{Kind: api.Free, Gen: gen})
	same(k.t, "in the free list", slices.Contains(stack.List(k.c, k.w.Words()), slot), true)
}

// right holds the words against right ones.
func (k *bench) right() {
	if got := heap.Check(k.c, k.w.Words()); got != heap.Right {
		k.t.Helper()
		k.t.Fatalf("behind %d picks Check is %d", k.w.Now(), got)
	}
}

// all is all that a world tells.
type all struct {
	now, touches, cycles int
	done                 bool
	epoch                uint64
	last                 api.Touch
	busy                 []bool
	events               []api.Event
	told                 [][]uint64
	words                []uint64
}

// all is all that the world tells now. It shares nothing with what was answered, so that it stays as it is.
func (k *bench) all() all {
	a := all{now: k.w.Now(), touches: k.w.Touches(), cycles: k.w.Cycles(), done: k.w.Done(), epoch: k.w.Epoch(), last: k.w.Last(), events: slices.Clone(k.w.Events()), words: slices.Clone(k.w.Words())}
	for who := range k.c.Clients {
		a.busy = append(a.busy, k.w.Busy(who))
		a.told = append(a.told, slices.Clone(k.w.Told(who)))
	}
	return a
}

// isAll holds what a world told, or should have, against what it tells now.
func (a all) isAll(k *bench) {
	k.t.Helper()
	b := k.all()
	same(k.t, "Now", b.now, a.now)
	same(k.t, "Touches", b.touches, a.touches)
	same(k.t, "Last", b.last, a.last)
	same(k.t, "Cycles", b.cycles, a.cycles)
	same(k.t, "Epoch", b.epoch, a.epoch)
	same(k.t, "Done", b.done, a.done)
	if !slices.Equal(b.busy, a.busy) || !slices.Equal(b.events, a.events) || !slices.EqualFunc(b.told, a.told, slices.Equal) || !slices.Equal(b.words, a.words) {
		k.t.Fatalf("the world tells %+v, want %+v", b, a)
	}
}

// same holds a thing against what it should be.
func same[N comparable](t *testing.T, what string, got, want N) {
	if got != want {
		t.Helper()
		t.Fatalf("%s: %v, want %v", what, got, want)
	}
}

// draw is the next of a row of numbers that looks like no order at all, below n.
func draw(seed *uint64, n int) int {
	*seed = *seed*6364136223846793005 + 1442695040888963407
	return int(*seed>>33) % n
}
