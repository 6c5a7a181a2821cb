package client_test

import (
	"slices"
	"testing"

	"withy/api"
	"withy/arena"
	"withy/collect"
	"withy/field"
	"withy/hist"
	"withy/lin"
	"withy/plan"
	"withy/shade"
	"withy/stack"
)

// scene is clients and a collector in one memory, with all that was called.
type scene struct {
	*bench
	d      *dealt
	gc     *collect.Collect
	under  []api.Event // the calls that are under way, or were last
	gens   map[uint64]uint64
	events []api.Event
	shared bool  // do the clients come to one another's nodes?
	calls  int   // how many calls may still begin
	took   []int // how many steps the client's call took yet
	late   int   // how many Swaps found another only behind the record's making
}

func newScene(t *testing.T, c api.Config, seed *uint64) *scene {
	t.Helper()
	return &scene{bench: newBench(t, c), d: &dealt{seed, c, make([][]uint64, c.Clients)}, gc: collect.NewCollect(c), under: make([]api.Event, c.Clients), took: make([]int, c.Clients), gens: map[uint64]uint64{}}
}

// begin has a client begin a call.
func (f *scene) begin(who int, call api.Call) {
	f.t.Helper()
	f.begins(who, call)
	f.under[who] = api.Event{Client: who, Op: f.under[who].Op + 1, Begun: f.b.Now + 1, Call: call}
	f.took[who] = 0
	f.calls--
}

// steps has a client go a step on with its call, and notes it when it is over.
func (f *scene) steps(who int) {
	f.t.Helper()
	f.b.Now++
	f.took[who]++
	before := f.m.Touches()
	done := f.k[who].Step(f.m)
	if f.m.Touches() > before+1 {
		f.t.Fatalf("%d touches in one step", f.m.Touches()-before)
	}
	if f.m.Touches() > before {
		f.checkTouch()
	}
	same(f.t, "Busy", f.k[who].Busy(), !done)
	if !done {
		return
	}
	e := &f.under[who]
	e.Ended = f.b.Now
	e.Answer = f.k[who].Answer()
	e.Point, e.Behind = f.k[who].Point()
	f.events = append(f.events, *e)
	if e.Call.Kind == api.Swap && e.Answer == ok && f.took[who] > 17 { // a Read alone takes fewer
		f.late++
	}
	f.d.note(who, e.Call, e.Answer)
	if slot := f.k[who].Holds(e.Answer.H); slot != none {
		f.gens[e.Answer.H] = uint64(f.head(slot).Gen)
	}
}

// kind is what a slot is, in words of a memory.
func (f *scene) kind(words []uint64, slot int) int {
	return int(words[f.header(slot)] & 7)
}

// checkTouch: P2: no client touches the body of a slot that is in the free list, in limbo or dead.
func (f *scene) checkTouch() {
	at := f.m.Last().At
	slot := plan.Slot(f.c, at)
	if slot == none || at < f.body(slot, 0) {
		return
	}
	words := f.m.Words()
	kind := f.kind(words, slot)
	if kind == api.Limbo || kind == api.Dead || kind == api.Free && slices.Contains(stack.List(f.c, words), slot) {
		f.t.Helper()
		f.t.Fatalf("the touch %+v is of the body of the slot %d: %+v", f.m.Last(), slot, f.head(slot))
	}
}

// collects has the collector go a step on.
func (f *scene) collects() {
	f.t.Helper()
	f.step(f.gc, 1)
}

// next is a call that a client may begin: of clients that share nodes, none that would need room that it hasn't, or another one's handle, and only the first one walks.
func (f *scene) next(who int) api.Call {
	for {
		call := f.d.call(who)
		if !f.shared {
			return call
		}
		walks := call.Kind == api.Open || call.Kind == api.Next || call.Kind == api.Close
		full := f.held(who) == f.c.Handles && (call.Kind == api.New || call.Kind == api.Load || call.Kind == api.Next)
		foreign := slices.ContainsFunc([]uint64{call.H, call.X, call.Y}, func(h uint64) bool { return h>>56 != uint64(who)+1 && h != 0 })
		if !full && !foreign && (who == 0 || !walks) {
			return call
		}
	}
}

// held is how many of the handles that were given a client holds.
func (f *scene) held(who int) int {
	n := 0
	for _, h := range f.d.given[who] {
		if f.k[who].Holds(h) != none {
			n++
		}
	}
	return n
}

// named is the slots that a slot names, if it is a node or a record, as words.
func (f *scene) named(words []uint64, slot int) []uint64 {
	at := f.body(slot, 0)
	switch w := words[f.header(slot)]; w & 7 {
	case api.Node:
		return words[at : at+int(w>>5&15)]
	case api.Record:
		return []uint64{words[at+value], words[at+older]}
	}
	return nil
}

// reached is which slots can be reached, from entries and starts on.
func (f *scene) reached(words []uint64) []bool {
	is := make([]bool, f.c.Slots)
	var l []uint64
	for who := range f.c.Clients {
		for i := range f.c.Handles {
			l = append(l, words[f.entry(who, i)]&(1<<32-1))
		}
		l = append(l, words[plan.Start(f.c, who)])
	}
	for len(l) > 0 {
		w := l[len(l)-1]
		l = l[:len(l)-1]
		if w != 0 && !is[w-1] {
			is[w-1] = true
			l = append(l, f.named(words, int(w)-1)...)
		}
	}
	return is
}

// check: P2: nothing that can be reached is free, in limbo, dead, or in the free list; what is held is of the generation that it was of; and the grays are never fewer than there are gray slots.
func (f *scene) check() {
	words := f.m.Words()
	reached := f.reached(words)
	for slot, is := range reached {
		if kind := f.kind(words, slot); is && kind != api.Node && kind != api.Record {
			f.t.Helper()
			f.t.Fatalf("the slot %d can be reached: %+v", slot, f.head(slot))
		}
	}
	for _, slot := range stack.List(f.c, words) {
		if reached[slot] {
			f.t.Helper()
			f.t.Fatalf("the slot %d can be reached, and is in the free list", slot)
		}
	}
	for who, l := range f.d.given {
		for _, h := range l {
			slot := f.k[who].Holds(h)
			if slot != none && (f.kind(words, slot) != api.Node || words[f.header(slot)]>>16&(1<<32-1) != f.gens[h]) {
				f.t.Helper()
				f.t.Fatalf("%x was of the generation %d: %+v", h, f.gens[h], f.head(slot))
			}
		}
	}
	if n := shade.Grays(f.c, words); uint64(n) > words[plan.Grays] {
		f.t.Helper()
		f.t.Fatalf("the grays are %d, of %d gray slots", words[plan.Grays], n)
	}
}

// picks has any of them go on, till no call may begin any more, and none is under way; the collector as often as all clients, or oftener, and often several steps in a row.
func (f *scene) picks(calls int) {
	f.t.Helper()
	f.calls = calls
	who, many := 0, f.c.Clients*(2+draw(f.d.seed, 4))
	calm := []int{1, 3, 9, 50}[draw(f.d.seed, 4)]
	for left := true; left; {
		if draw(f.d.seed, calm) == 0 {
			who = draw(f.d.seed, many)
		}
		switch {
		case who >= f.c.Clients:
			f.collects()
		case f.k[who].Busy():
			f.steps(who)
		case f.calls > 0:
			f.begin(who, f.next(who))
			f.steps(who)
		default:
			who = draw(f.d.seed, many)
		}
		if last := f.m.Last(); last.Was != last.Now {
			f.check()
		}
		left = f.calls > 0
		for _, k := range f.k {
			left = left || k.Busy()
		}
	}
}

// rests: P4: with no call under way the collector goes on, for two cycles and a rest: then all that can't be reached is dead, or free, and in the free list.
func (f *scene) rests() {
	f.t.Helper()
	steps := 0
	for e := f.gc.E; f.gc.E < e+9 || f.gc.E%4 != 1; steps++ {
		f.collects()
	}
	if steps > 4*collect.Bound(f.c) {
		f.t.Fatalf("%d steps, and Bound is %d", steps, collect.Bound(f.c))
	}
	f.check()
	words := f.m.Words()
	list := stack.List(f.c, words)
	for slot, is := range f.reached(words) {
		kind := f.kind(words, slot)
		if !is && kind != api.Dead && (kind != api.Free || !slices.Contains(list, slot)) {
			f.t.Fatalf("the slot %d can't be reached: %+v, the free list is %v", slot, f.head(slot), list)
		}
	}
}

// counts counts how often each kind was answered OK, and, as 100, how often ErrFull was told.
func (f *scene) counts(told map[int]int) {
	for _, e := range f.events {
		switch e.Answer.Err {
		case api.OK:
			told[e.Call.Kind]++
		case api.ErrFull:
			told[100]++
		}
	}
}

// P21.4, with P1, P2 and P4: clients with a collector, in many orders of all steps: what they are answered is as if all had been done at once, at their points.
func TestManyOrders(t *testing.T) {
	seed := uint64(4)
	told := map[int]int{}
	for n := range 600 {
		c := []api.Config{
			{Slots: 6, Arity: 1, Clients: 2, Handles: 3, Gens: api.MaxGens, Stack: 1},
			{Slots: 12, Arity: 2, Clients: 3, Handles: 3, Gens: 30, Stack: 2},
			{Slots: 30, Arity: 2, Clients: 2, Handles: 6, Gens: 4, Stack: 0},
			{Slots: 64, Arity: 8, Clients: 8, Handles: 16, Gens: api.MaxGens, Stack: 64},
			{Slots: 20, Arity: 1, Clients: 1, Handles: 4, Gens: api.MaxGens, Stack: 3},
		}[n%5]
		f := newScene(t, c, &seed)
		for range 3 {
			f.picks(30)
			f.rests()
		}
		if !lin.Points(c, f.events) {
			order := hist.Order(f.events)
			taken := lin.Replay(c, f.events, order)
			t.Fatalf("%+v: not right by its points; a model takes %d of %d, and not %+v", c, taken, len(order), f.events[order[min(taken, len(order)-1)]])
		}
		f.counts(told)
	}
	for _, kind := range []int{api.New, api.Load, api.Link, api.Unlink, api.Swap, api.Release, api.Same, api.Open, api.Next, api.Close, 100} {
		if told[kind] < 200 {
			t.Errorf("the kind %d was answered only %d times", kind, told[kind])
		}
	}
}

// shares has each client have a node, and somebody else have all of them name one another's by their first fields, so that they come to all: each one holds the next one's.
func (f *scene) shares() {
	f.t.Helper()
	f.shared = true
	for who := range f.c.Clients {
		f.begin(who, makes(f.c.Arity))
		for f.k[who].Busy() {
			f.steps(who)
		}
	}
	for who := range f.c.Clients {
		other := (who + 1) % f.c.Clients
		rec := arena.NewMake(f.c, api.Record, 0, 0, []uint64{uint64(other) + 1})
		f.ends(rec)
		f.ends(field.NewLay(f.c, who, 0, rec.Slot, -2, 0, f.b))
		f.b.Now++
		f.under[who].Op++
		f.events = append(f.events, api.Event{Client: who, Op: f.under[who].Op, Begun: f.b.Now, Point: f.b.Now, Ended: f.b.Now, Call: link(handle(who, 0, 1), 0, handle(other, 0, 1))})
		f.begin(who, load(handle(who, 0, 1), 0))
		for f.k[who].Busy() {
			f.steps(who)
		}
	}
}

// P10.5, P21.3: clients that come to one another's nodes, so that they write on, read and walk through the same fields: told as one client's, who holds all handles, it is as if all had been done at once, at their points.
func TestSharedNodes(t *testing.T) {
	seed := uint64(6)
	told := map[int]int{}
	late := 0
	for n := range 400 {
		c := []api.Config{
			{Slots: 40, Arity: 1, Clients: 2, Handles: 8, Gens: api.MaxGens, Stack: 1},
			{Slots: 50, Arity: 1, Clients: 4, Handles: 4, Gens: api.MaxGens, Stack: 2},
			{Slots: 64, Arity: 2, Clients: 3, Handles: 5, Gens: api.MaxGens, Stack: 64},
			{Slots: 16, Arity: 1, Clients: 2, Handles: 5, Gens: api.MaxGens, Stack: 0},
		}[n%4]
		f := newScene(t, c, &seed)
		f.shares()
		for range 2 {
			f.picks(40)
			f.rests()
		}
		if !hist.Right(f.events, c.Clients) {
			t.Fatalf("%+v: not a right history", f.events)
		}
		order := hist.Order(f.events)
		all := slices.Clone(f.events)
		for i := range all {
			all[i].Client = 0
		}
		one := c
		one.Clients, one.Handles = 1, 16
		if taken := lin.Replay(one, all, order); taken < len(all) {
			t.Fatalf("%+v: a model takes %d of %d by their points, and not %+v", c, taken, len(all), f.events[order[taken]])
		}
		f.counts(told)
		late += f.late
	}
	for _, kind := range []int{api.New, api.Load, api.Link, api.Unlink, api.Swap, api.Release, api.Same, api.Open, api.Next, api.Close, 100} {
		if told[kind] < 100 {
			t.Errorf("the kind %d was answered only %d times", kind, told[kind])
		}
	}
	if late < 20 {
		t.Errorf("only %d Swaps found another one late", late)
	}
}

// Rule 6: the same steps in the same order come to the same answers, points and words.
func TestSameStepsSameWords(t *testing.T) {
	run := func() ([]uint64, []api.Event) {
		seed := uint64(11)
		f := newScene(t, api.Config{Slots: 20, Arity: 2, Clients: 3, Handles: 4, Gens: 50, Stack: 1}, &seed)
		f.picks(100)
		return f.m.Words(), f.events
	}
	words, events := run()
	if again, told := run(); !slices.Equal(words, again) || !slices.Equal(events, told) {
		t.Error("the same steps came to other words, or answers")
	}
}
