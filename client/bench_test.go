package client_test

import (
	"math"
	"slices"
	"testing"

	"withy/api"
	"withy/client"
	"withy/field"
	"withy/head"
	"withy/mem"
	"withy/plan"
	"withy/stack"
)

// none is told where there is no slot.
const none = -1

// The words of a record's body.
const (
	value = 0
	stamp = 1
	older = 2
)

// config is one with so many slots, such an arity, so many clients and handles.
func config(slots, arity, clients, handles int) api.Config {
	return api.Config{Slots: slots, Arity: arity, Clients: clients, Handles: handles, Gens: 9, Stack: 2}
}

// least is the config with the least of everything.
func least() api.Config {
	return api.Config{Slots: 1, Clients: 1, Handles: 1, Gens: 1}
}

// greatest is the config with the most of everything.
func greatest() api.Config {
	return api.Config{Slots: 64, Arity: 8, Clients: 8, Handles: 16, Gens: api.MaxGens, Stack: 64}
}

// number is one of a config's, with its lowest and its highest.
type number struct {
	at        *int
	low, high int
}

// numbers are all that a config has.
func numbers(c *api.Config) []number {
	return []number{{&c.Slots, 1, 64}, {&c.Arity, 0, 8}, {&c.Clients, 1, 8}, {&c.Handles, 1, 16}, {&c.Gens, 1, 1 << 20}, {&c.Stack, 0, 64}}
}

// configs are right ones: the least and the greatest, and some in which one number is its lowest or its highest.
func configs() []api.Config {
	l := []api.Config{least(), greatest(), config(3, 1, 1, 3)}
	c := config(6, 3, 2, 3)
	for _, n := range numbers(&c) {
		was := *n.at
		for _, v := range []int{n.low, n.high} {
			*n.at = v
			l = append(l, c)
		}
		*n.at = was
	}
	return l
}

// wrongConfigs are configs in which one number is beyond its lowest or highest.
func wrongConfigs() []api.Config {
	l := []api.Config{{}}
	for _, c := range []api.Config{least(), config(3, 2, 2, 2), greatest()} {
		for _, n := range numbers(&c) {
			was := *n.at
			for _, v := range []int{n.low - 1, n.high + 1, math.MinInt, math.MaxInt} {
				*n.at = v
				l = append(l, c)
			}
			*n.at = was
		}
	}
	return l
}

// bodySize is how many words a slot's body has.
func bodySize(c api.Config) int {
	return max(c.Arity, 3)
}

// The calls, by their kinds.

func makes(arity int) api.Call {
	return api.Call{Kind: api.New, N: arity}
}

func load(h uint64, i int) api.Call {
	return api.Call{Kind: api.Load, N: i, H: h}
}

func link(h uint64, i int, x uint64) api.Call {
	return api.Call{Kind: api.Link, N: i, H: h, X: x}
}

func unlink(h uint64, i int) api.Call {
	return api.Call{Kind: api.Unlink, N: i, H: h}
}

func swap(h uint64, i int, x, y uint64) api.Call {
	return api.Call{Kind: api.Swap, N: i, H: h, X: x, Y: y}
}

func release(h uint64) api.Call {
	return api.Call{Kind: api.Release, H: h}
}

func compare(h, x uint64) api.Call {
	return api.Call{Kind: api.Same, H: h, X: x}
}

func opens(h uint64) api.Call {
	return api.Call{Kind: api.Open, H: h}
}

func next(h uint64) api.Call {
	return api.Call{Kind: api.Next, H: h}
}

func closes(h uint64) api.Call {
	return api.Call{Kind: api.Close, H: h}
}

// The answers that give nothing.
var (
	ok  = api.Answer{}
	yes = api.Answer{Yes: true}
)

// only is the answer that tells an error.
func only(err api.Errno) api.Answer {
	return api.Answer{Err: err}
}

// gives is the answer that gives a handle.
func gives(h uint64) api.Answer {
	return api.Answer{H: h}
}

// handle is a client's handle of an entry, with a tag; the entry 255 is a walk's.
func handle(who, entry int, tag uint64) uint64 {
	return uint64(who+1)<<56 + uint64(entry)<<48 + tag
}

// bench is a memory with a book, in which clients take steps, each at a time of its own.
type bench struct {
	t *testing.T
	c api.Config
	m *mem.Mem
	b *field.Book
	k []*client.Client
}

// newBench is one in which nothing was done.
func newBench(t *testing.T, c api.Config) *bench {
	t.Helper()
	k := &bench{t: t, c: c, m: plan.Memory(c), b: field.NewBook()}
	for who := range c.Clients {
		one := client.New(c, who, k.b)
		if one == nil {
			t.Fatalf("New(%+v, %d, ..): nil", c, who)
		}
		k.k = append(k.k, one)
	}
	return k
}

// word is a word of the memory.
func (k *bench) word(at int) uint64 {
	return k.m.Words()[at]
}

// isWord holds a word against what it should be.
func (k *bench) isWord(at int, want uint64) {
	if got := k.word(at); got != want {
		k.t.Helper()
		k.t.Fatalf("the word at %d is %x, want %x", at, got, want)
	}
}

// epoch has the epoch be this one.
func (k *bench) epoch(e uint64) {
	k.m.Store(plan.Epoch, e)
}

// head is what a slot's header says.
func (k *bench) head(slot int) api.Header {
	h, ok := head.Unpack(k.word(plan.Header(k.c, slot)))
	if !ok {
		k.t.Helper()
		k.t.Fatalf("the slot %d's header isn't right", slot)
	}
	return h
}

// free is the slots of the free list.
func (k *bench) free() []int {
	return stack.List(k.c, k.m.Words())
}

// list holds the free list against what it should be.
func (k *bench) list(want ...int) {
	if got := k.free(); !slices.Equal(got, want) {
		k.t.Helper()
		k.t.Fatalf("the free list is %v, want %v", got, want)
	}
}

// begins has a client begin a call.
func (k *bench) begins(who int, call api.Call) {
	k.t.Helper()
	same(k.t, "Begin", k.k[who].Begin(call), true)
	same(k.t, "Busy", k.k[who].Busy(), true)
}

// step has a machine take one step, at the next time, of so many touches, and is what it answers.
func (k *bench) step(s mem.Machine, touches int) bool {
	k.b.Now++
	before := k.m.Touches()
	done := s.Step(k.m)
	if n := k.m.Touches() - before; n != touches {
		k.t.Helper()
		k.t.Fatalf("%d touches in one step, want %d (the last %+v)", n, touches, k.m.Last())
	}
	return done
}

// touches has a client take a step for each of these, and holds the kind and the place of its touch against them. None is the last one.
func (k *bench) touches(who int, l ...[2]int) {
	k.t.Helper()
	for i, want := range l {
		done := k.step(k.k[who], 1)
		last := k.m.Last()
		if got := [2]int{last.Kind, last.At}; done || got != want || !k.k[who].Busy() {
			k.t.Fatalf("the step %d: done %v, the touch %+v, want the kind and the place %v", i, done, last, want)
		}
	}
}

// What touches are told as: the kind, and the place.

func loads(at int) [2]int {
	return [2]int{api.TLoad, at}
}

func stores(at int) [2]int {
	return [2]int{api.TStore, at}
}

func swaps(at int) [2]int {
	return [2]int{api.TSwap, at}
}

func adds(at int) [2]int {
	return [2]int{api.TAdd, at}
}

// The places, and what is done to them, by parts of calls.

func (k *bench) body(slot, i int) int {
	return plan.Body(k.c, slot, i)
}

func (k *bench) header(slot int) int {
	return plan.Header(k.c, slot)
}

func (k *bench) entry(who, i int) int {
	return plan.Entry(k.c, who, i)
}

// pins has a client be pinned, in whatever epoch there is, with nobody else about.
func (k *bench) pins(who int) {
	k.t.Helper()
	pin := plan.Pin(k.c, who)
	k.isWord(pin, 0)
	k.touches(who, loads(plan.Epoch), stores(pin), loads(plan.Epoch))
	k.isWord(pin, 2*k.word(plan.Epoch)+1)
}

// takes has a client make a slot something, which is the first one in the list.
func (k *bench) takes(who, slot int) {
	k.t.Helper()
	k.touches(who, loads(plan.Top), loads(plan.Link(k.c, slot)), swaps(plan.Top), loads(k.header(slot)))
	for i := range bodySize(k.c) {
		k.touches(who, stores(k.body(slot, i)))
	}
	k.touches(who, stores(k.header(slot)))
}

// shades has a client shade a slot that can be.
func (k *bench) shades(who, slot int) {
	k.t.Helper()
	k.touches(who, loads(k.header(slot)), adds(plan.Grays), swaps(k.header(slot)))
	same(k.t, "gray", k.head(slot).Gray, true)
}

// leaves has a client take a call's last step, so many steps behind which it took effect, and holds what it tells then against what it should.
func (k *bench) leaves(who int, a api.Answer, ago int, behind bool) {
	k.t.Helper()
	k.leavesAt(who, a, k.b.Now+1-ago, behind)
}

// leavesAt is leaves, by the point.
func (k *bench) leavesAt(who int, a api.Answer, point int, behind bool) {
	k.t.Helper()
	same(k.t, "the last Step", k.step(k.k[who], 1), true)
	last := k.m.Last()
	same(k.t, "the last touch", [2]int{last.Kind, last.At}, stores(plan.Pin(k.c, who)))
	same(k.t, "what the pin was", last.Was&1, 1)
	k.isWord(plan.Pin(k.c, who), 0)
	k.over(who, a, point, behind)
}

// over holds what a client tells of the last call against what it should, and has it take more steps, which do nothing.
func (k *bench) over(who int, a api.Answer, point int, behind bool) {
	k.t.Helper()
	for range 3 {
		same(k.t, "Busy", k.k[who].Busy(), false)
		same(k.t, "Answer", k.k[who].Answer(), a)
		when, is := k.k[who].Point()
		same(k.t, "Point", when, point)
		same(k.t, "behind", is, behind)
		same(k.t, "Step behind the last one", k.step(k.k[who], 0), true)
		k.b.Now--
	}
}

// atOnce has a client do a call that is told at once: in one step without a touch, that is its point, and behind.
func (k *bench) atOnce(who int, call api.Call, a api.Answer) {
	k.t.Helper()
	words := k.m.Words()
	k.begins(who, call)
	same(k.t, "the only Step", k.step(k.k[who], 0), true)
	k.over(who, a, k.b.Now, true)
	if !slices.Equal(k.m.Words(), words) {
		k.t.Fatalf("%+v: the words were changed", call)
	}
}

// ends has a machine take steps till its work is done, and is how many; each is one touch.
func (k *bench) ends(s mem.Machine) int {
	k.t.Helper()
	for n := range 100000 {
		if k.step(s, 1) {
			return n + 1
		}
	}
	k.t.Fatal("the work isn't done behind 100000 steps")
	return 0
}

// does has a client do a call that isn't told at once, alone, and is its answer.
func (k *bench) does(who int, call api.Call) api.Answer {
	k.t.Helper()
	k.begins(who, call)
	k.ends(k.k[who])
	return k.k[who].Answer()
}

// is has a client do a call, alone, and holds its answer against what it should be.
func (k *bench) is(who int, call api.Call, want api.Answer) {
	k.t.Helper()
	same(k.t, "Answer", k.does(who, call), want)
}

// gets has a client do a call that gives a handle, of a slot.
func (k *bench) gets(who int, call api.Call, slot int) uint64 {
	k.t.Helper()
	a := k.does(who, call)
	if a.Err != api.OK || a.H == 0 || a.Yes {
		k.t.Fatalf("%+v: %+v, want a handle", call, a)
	}
	k.holds(who, a.H, slot)
	return a.H
}

// holds holds the slot that a client holds by a handle against what it should be.
func (k *bench) holds(who int, h uint64, want int) {
	if got := k.k[who].Holds(h); got != want {
		k.t.Helper()
		k.t.Fatalf("Holds(%x): %d, want %d", h, got, want)
	}
}

// lays has somebody else give a field a value, by a record that was never in the free list: the last slot's.
func (k *bench) lays(node, i, rec, val int) *field.Lay {
	k.t.Helper()
	w, _ := head.Pack(api.Header{Kind: api.Record})
	k.m.Store(k.header(rec), w)
	k.m.Store(k.body(rec, value), uint64(val+1))
	k.m.Store(k.body(rec, stamp), 0)
	l := field.NewLay(k.c, node, i, rec, -2, 0, k.b)
	k.ends(l)
	return l
}

// same holds a thing against what it should be.
func same[N comparable](t *testing.T, what string, got, want N) {
	if got != want {
		t.Helper()
		t.Fatalf("%s: %v, want %v", what, got, want)
	}
}

// draw is the next of a row of numbers that looks like no order at all, below n.
func draw(seed *uint64, n int) int {
	*seed = *seed*6364136223846793005 + 1442695040888963407
	return int(*seed>>33) % n
}
