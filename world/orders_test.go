package world_test

import (
	"slices"
	"testing"

	"withy/api"
	"withy/head"
	"withy/heap"
	"withy/hist"
	"withy/lin"
	"withy/model"
	"withy/plan"
	"withy/stack"
)

// scene is a world that is picked in a drawn order, with what is to hold of it noted.
type scene struct {
	*bench
	seed *uint64
	held map[uint64]holding // what each handle that was answered was of
	ever map[holding]int    // how many nodes were made of a slot's generation
	over int                // how many events were looked at
}

// holding is a slot in a generation.
type holding struct{ slot, gen int }

func newScene(t *testing.T, c api.Config, seed *uint64, length int) *scene {
	t.Helper()
	return &scene{bench: newBench(t, c, programs(seed, c, length)...), seed: seed, held: map[uint64]holding{}, ever: map[holding]int{}}
}

// pickAny has anybody go on, often the same one several times in a row, till each program is done.
func (f *scene) pickAny(picks int) {
	f.t.Helper()
	many := f.c.Clients + 1 + draw(f.seed, 6)
	calm := []int{1, 3, 9, 60}[draw(f.seed, 4)]
	who := 0
	for n := 0; n < picks && !f.w.Done(); n++ {
		if draw(f.seed, calm) == 0 {
			who = draw(f.seed, many)
		}
		if f.w.Pick(min(who, f.c.Clients)) {
			f.checkPick()
		} else {
			who = draw(f.seed, many)
		}
	}
}

// checkPick: P2, P23.4: behind each pick nobody touched the body of what isn't in use; and where the touch changed something, the words are right, and what is held is what it was.
func (f *scene) checkPick() {
	f.t.Helper()
	f.noteEvents()
	last := f.w.Last()
	f.checkTouch(last.At)
	if last.Was != last.Now {
		f.right()
		f.checkHeld()
	}
}

// checkTouch: P2: no touch is of the body of a slot that is in the free list, in limbo or dead.
func (f *scene) checkTouch(at int) {
	slot := plan.Slot(f.c, at)
	if slot == none || at < plan.Body(f.c, slot, 0) {
		return
	}
	words := f.w.Words()
	is, _ := head.Unpack(words[plan.Header(f.c, slot)])
	if is.Kind == api.Limbo || is.Kind == api.Dead || is.Kind == api.Free && slices.Contains(stack.List(f.c, words), slot) {
		f.t.Helper()
		f.t.Fatalf("the touch %+v is of the body of the slot %d: %+v", f.w.Last(), slot, is)
	}
}

// noteEvents notes what was answered anew.
func (f *scene) noteEvents() {
	f.t.Helper()
	l := f.w.Events()
	for ; f.over < len(l); f.over++ {
		e := l[f.over]
		slot := f.w.Holds(e.Client, e.Answer.H)
		if slot == none {
			continue
		}
		was := holding{slot, f.head(slot).Gen}
		f.held[e.Answer.H] = was
		if e.Call.Kind == api.New {
			f.ever[was]++
			same(f.t, "how often a slot was made a node in one generation", f.ever[was], 1)
		}
	}
}

// checkHeld: a handle's slot is of one generation as long as it is held.
func (f *scene) checkHeld() {
	f.t.Helper()
	words := f.w.Words()
	for h, was := range f.held {
		slot := f.w.Holds(int(h>>56)-1, h)
		if slot == none {
			delete(f.held, h)
			continue
		}
		is, _ := head.Unpack(words[plan.Header(f.c, slot)])
		if slot != was.slot || is.Kind != api.Node || is.Gen != was.gen {
			f.t.Fatalf("%x was of %+v, and is of the slot %d: %+v", h, was, slot, is)
		}
	}
}

// checkRest: P4: behind a Rest what can't be reached is dead, or free and in the free list; and nothing is under way.
func (f *scene) checkRest() {
	f.t.Helper()
	f.noteEvents()
	f.right()
	f.checkHeld()
	words := f.w.Words()
	list := stack.List(f.c, words)
	for slot, is := range heap.Reached(f.c, words) {
		kind := f.head(slot).Kind
		if !is && kind != api.Dead && (kind != api.Free || !slices.Contains(list, slot)) {
			f.t.Fatalf("the slot %d can't be reached: %+v, the free list is %v", slot, f.head(slot), list)
		}
	}
	for who := range f.c.Clients {
		same(f.t, "Busy", f.w.Busy(who), false)
	}
}

// checkPoints: P1: the events are as if all had been done at once, at their points; and where none is under way, what nodes that are held name is what the model says.
func (f *scene) checkPoints() {
	f.t.Helper()
	l := f.w.Events()
	order := hist.Order(l)
	if !lin.Points(f.c, l) {
		taken := lin.Replay(f.c, l, order)
		f.t.Fatalf("%+v: not right by its points; a model takes %d of %d, and not %+v", f.c, taken, len(order), l[order[min(taken, len(order)-1)]])
	}
	m := model.New(f.c)
	for _, i := range order {
		m.Does(l[i].Client, l[i].Call, l[i].Answer)
	}
	words := f.w.Words()
	for h := range f.held {
		who := int(h>>56) - 1
		slot, node := f.w.Holds(who, h), m.Node(who, h)
		for i, to := range heap.Fields(f.c, words, slot) {
			f.names(m, who, m.Field(node, i), to)
		}
	}
}

// names holds what a field names against the model's node: where both are held, by the handles.
func (f *scene) names(m *model.Model, who, node, slot int) {
	f.t.Helper()
	same(f.t, "names something", slot != none, node != none)
	for h := range f.held {
		if int(h>>56)-1 == who && node != none {
			same(f.t, "names what is held", f.w.Holds(who, h) == slot, m.Node(who, h) == node)
		}
	}
}

// scenes are the configs of which drawn worlds are, with how long their programs are.
func scenes() []api.Config {
	return []api.Config{
		{Slots: 6, Arity: 1, Clients: 2, Handles: 3, Gens: api.MaxGens, Stack: 1},
		{Slots: 12, Arity: 2, Clients: 3, Handles: 3, Gens: 30, Stack: 2},
		{Slots: 30, Arity: 2, Clients: 2, Handles: 6, Gens: 4, Stack: 0},
		{Slots: 64, Arity: 8, Clients: 8, Handles: 16, Gens: api.MaxGens, Stack: 64},
		{Slots: 20, Arity: 1, Clients: 1, Handles: 4, Gens: api.MaxGens, Stack: 3},
		{Slots: 1, Arity: 0, Clients: 1, Handles: 1, Gens: 1, Stack: 0},
		{Slots: 9, Arity: 3, Clients: 2, Handles: 4, Gens: 2, Stack: 1},
		{Slots: 40, Arity: 2, Clients: 4, Handles: 5, Gens: api.MaxGens, Stack: 8},
	}
}

// P22.5, P23.4, with P1 to P5: drawn programs, under drawn picks and rests.
func TestManyOrders(t *testing.T) {
	seed := uint64(8)
	told := map[int]int{}
	for n := range 480 {
		c := scenes()[n%len(scenes())]
		f := newScene(t, c, &seed, []int{10, 30, 64}[n%3])
		for range 3 {
			f.pickAny(c.Clients * (100 + draw(&seed, 900)))
			f.rests()
			f.checkRest()
			f.checkPoints()
		}
		f.pickAny(1 << 20)
		same(t, "Done", f.w.Done(), true)
		f.checkPoints()
		f.rests()
		f.checkRest()
		for _, e := range f.w.Events() {
			switch e.Answer.Err {
			case api.OK:
				told[e.Call.Kind]++
			case api.ErrFull:
				told[100]++
			case api.ErrRoom:
				told[101]++
			}
		}
	}
	for _, kind := range []int{api.New, api.Load, api.Link, api.Unlink, api.Swap, api.Release, api.Same, api.Open, api.Next, api.Close, 100, 101} {
		if told[kind] < 100 {
			t.Errorf("the kind %d was answered only %d times", kind, told[kind])
		}
	}
}

// P1: all histories of two clients' short programs are found to be as if done at once by a search through all orders, too.
func TestSearched(t *testing.T) {
	seed := uint64(12)
	for range 300 {
		c := api.Config{Slots: 5, Arity: 1, Clients: 2, Handles: 2, Gens: 3, Stack: 1}
		f := newScene(t, c, &seed, 3)
		f.pickAny(1 << 20)
		l := f.w.Events()
		same(t, "events", len(l), 6)
		if _, ok, err := lin.Search(c, l); !ok || err != api.OK {
			t.Fatalf("no order is found (%d): %+v", err, l)
		}
	}
}

// P1: only New, Link, Unlink and Swap are ever answered ErrFull.
func TestWhoIsFull(t *testing.T) {
	seed := uint64(2)
	full := map[int]int{}
	for range 200 {
		f := newScene(t, api.Config{Slots: 4, Arity: 1, Clients: 2, Handles: 3, Gens: 3, Stack: 1}, &seed, 40)
		f.pickAny(1 << 20)
		for _, e := range f.w.Events() {
			if e.Answer.Err == api.ErrFull {
				full[e.Call.Kind]++
			}
		}
	}
	for _, kind := range []int{api.New, api.Link, api.Unlink, api.Swap} {
		if full[kind] == 0 {
			t.Errorf("the kind %d was never full", kind)
		}
		delete(full, kind)
	}
	if len(full) > 0 {
		t.Errorf("ErrFull of others: %v", full)
	}
}
