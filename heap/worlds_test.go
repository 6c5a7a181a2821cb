package heap_test

import (
	"slices"
	"testing"

	"withy/api"
	"withy/head"
	"withy/heap"
	"withy/hist"
	"withy/model"
	"withy/plan"
	"withy/world"
)

// own is what the client's operation of that number was answered.
func own(i int) api.Arg {
	return api.Arg{Of: i, Client: -1}
}

// program is a drawn one of a client: two nodes, of which it links, swaps, loads and lets go whatever it was answered.
func program(seed *uint64, c api.Config) []api.Op {
	l := []api.Op{{Kind: api.New, N: c.Arity}, {Kind: api.New, N: c.Arity}}
	kinds := []int{api.New, api.Link, api.Link, api.Link, api.Load, api.Load, api.Swap, api.Unlink, api.Release, api.Open, api.Next, api.Next, api.Close}
	walk := 0
	for len(l) < 40 {
		o := api.Op{Kind: kinds[draw(seed, len(kinds))], N: draw(seed, c.Arity), H: own(draw(seed, len(l))), X: own(draw(seed, len(l))), Y: own(draw(seed, len(l)))}
		switch o.Kind {
		case api.New:
			o.N++
		case api.Open:
			walk = len(l)
		case api.Next, api.Close:
			o.H = own(walk)
		}
		l = append(l, o)
	}
	return l
}

// bench is the words of a world.
func wordsOf(t *testing.T, c api.Config, w *world.World) *bench {
	return &bench{t, c, w.Words()}
}

// taken is a model that took what is over.
func taken(t *testing.T, c api.Config, w *world.World) *model.Model {
	t.Helper()
	m := model.New(c)
	l := w.Events()
	for _, i := range hist.Order(l) {
		if !m.Does(l[i].Client, l[i].Call, l[i].Answer) {
			t.Fatalf("a model doesn't take %+v", l[i])
		}
	}
	return m
}

// P23.4: where no call is under way, each field of a node that is held has what the model says: a node that it says to be held by a handle is what the client holds by it.
func fieldsAreTheModels(t *testing.T, c api.Config, w *world.World) int {
	t.Helper()
	m, k, seen := taken(t, c, w), wordsOf(t, c, w), 0
	for who := range c.Clients {
		slots := map[int]int{} // the slot of each node that is held
		for _, h := range w.Told(who) {
			if slot := w.Holds(who, h); slot != none {
				slots[m.Node(who, h)] = slot
			}
		}
		for node, slot := range slots {
			for i, to := range heap.Fields(c, k.words, slot) {
				want := m.Field(node, i)
				same(t, "a field has something", to != none, want != none)
				if other, held := slots[want]; held {
					same(t, "what a field has", to, other)
					seen++
				}
			}
		}
	}
	return seen
}

// alive are the slots that are nodes or records.
func (k *bench) alive() []int {
	var l []int
	for slot := range k.c.Slots {
		h, _ := head.Unpack(k.words[plan.Header(k.c, slot)])
		if h.Kind == api.Node || h.Kind == api.Record {
			l = append(l, slot)
		}
	}
	return l
}

// P23.4, P22.5: behind each pick of a world its words are right; behind a Rest just what is reached lives, and all of it is needed, because what no view needs was cut off.
func TestWorlds(t *testing.T) {
	seed := uint64(21)
	seen, spared := 0, 0
	for n := range 120 {
		c := []api.Config{config(12, 1, 2, 4), config(30, 2, 3, 4), config(64, 4, 1, 8), config(8, 2, 1, 5)}[n%4]
		c.Gens = api.MaxGens
		var l [][]api.Op
		for range c.Clients {
			l = append(l, program(&seed, c))
		}
		w := world.New(c, l)
		for calm := 1 + draw(&seed, 30); !w.Done(); {
			who := draw(&seed, c.Clients+1)
			for range calm {
				if w.Pick(who) && w.Last().Was != w.Last().Now {
					wordsOf(t, c, w).check(heap.Right)
				}
			}
			if draw(&seed, 200) == 0 {
				w.Rest()
				seen += fieldsAreTheModels(t, c, w)
			}
		}
		k := wordsOf(t, c, w)
		reached, needed := listed(heap.Reached(c, k.words)), listed(heap.Needed(c, k.words))
		if len(reached) > len(needed) {
			spared++
		}
		seen += fieldsAreTheModels(t, c, w)
		w.Rest()
		k = wordsOf(t, c, w)
		if alive := k.alive(); !slices.Equal(listed(heap.Reached(c, k.words)), alive) {
			t.Fatalf("reached are %v, alive %v", listed(heap.Reached(c, k.words)), alive)
		}
		k.needed(listed(heap.Reached(c, k.words))...)
		seen += fieldsAreTheModels(t, c, w)
	}
	if seen < 200 || spared < 20 {
		t.Errorf("%d fields were held against a model; %d times less was needed than reached", seen, spared)
	}
}

// P23.4: words of a world that are spoilt in one bit of a header's kind, of what is reached, aren't right any more.
func TestSpoiltWorlds(t *testing.T) {
	c := config(12, 2, 1, 3)
	w := world.New(c, [][]api.Op{{{Kind: api.New, N: 2}, {Kind: api.Link, H: own(0), X: own(0)}, {Kind: api.New, N: 1}, {Kind: api.Link, N: 1, H: own(0), X: own(2)}, {Kind: api.Unlink, H: own(0)}}})
	for !w.Done() {
		w.Pick(0)
	}
	k := wordsOf(t, c, w)
	k.check(heap.Right)
	k.fields(0, none, 2)
	k.reached(0, 1, 2, 3, 4)
	for slot := range 5 {
		for _, kind := range []uint64{api.Free, api.Limbo, api.Dead} {
			bad := k.copy()
			bad.words[plan.Header(c, slot)] = bad.words[plan.Header(c, slot)]&^7 | kind
			bad.check(heap.BadSlot)
		}
		bad := k.copy()
		bad.words[plan.Header(c, slot)] |= 1 << 9
		bad.check(heap.BadHead)
	}
}
