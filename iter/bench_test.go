package iter_test

import (
	"math"
	"slices"
	"testing"

	"withy/api"
	"withy/field"
	"withy/head"
	"withy/iter"
	"withy/mem"
	"withy/plan"
)

// none is told where there is no slot.
const none = -1

// The words of a record's body.
const (
	value = 0
	stamp = 1
	older = 2
)

// config is one with so many slots, such an arity, and the least of all else.
func config(slots, arity int) api.Config {
	return api.Config{Slots: slots, Arity: arity, Clients: 1, Handles: 1, Gens: 1}
}

// greatest is the config with the most of everything.
func greatest() api.Config {
	return api.Config{Slots: 64, Arity: 8, Clients: 8, Handles: 16, Gens: api.MaxGens, Stack: 64}
}

// number is one of a config's, with its lowest and its highest.
type number struct {
	at        *int
	low, high int
}

// numbers are all that a config has.
func numbers(c *api.Config) []number {
	return []number{{&c.Slots, 1, 64}, {&c.Arity, 0, 8}, {&c.Clients, 1, 8}, {&c.Handles, 1, 16}, {&c.Gens, 1, 1 << 20}, {&c.Stack, 0, 64}}
}

// configs are right ones: the least and the greatest, and some in which one number is its lowest or its highest.
func configs() []api.Config {
	l := []api.Config{config(1, 0), config(2, 3), greatest()}
	c := api.Config{Slots: 6, Arity: 4, Clients: 2, Handles: 3, Gens: 4, Stack: 2}
	for _, n := range numbers(&c) {
		was := *n.at
		for _, v := range []int{n.low, n.high} {
			*n.at = v
			l = append(l, c)
		}
		*n.at = was
	}
	return l
}

// wrongConfigs are configs in which one number is beyond its lowest or highest.
func wrongConfigs() []api.Config {
	l := []api.Config{{}}
	for _, c := range []api.Config{config(1, 0), config(3, 2), greatest()} {
		for _, n := range numbers(&c) {
			was := *n.at
			for _, v := range []int{n.low - 1, n.high + 1, math.MinInt, math.MaxInt} {
				*n.at = v
				l = append(l, c)
			}
			*n.at = was
		}
	}
	return l
}

// bodySize is how many words a slot's body has.
func bodySize(c api.Config) int {
	return max(c.Arity, 3)
}

// bench is a memory with a book, in which walks take steps, each at a time of its own.
type bench struct {
	t *testing.T
	c api.Config
	m *mem.Mem
	b *field.Book
}

func newBench(t *testing.T, c api.Config) *bench {
	return &bench{t: t, c: c, m: plan.Memory(c), b: field.NewBook()}
}

// heads has a slot's header be this one.
func (k *bench) heads(slot int, h api.Header) {
	w, ok := head.Pack(h)
	if !ok {
		k.t.Helper()
		k.t.Fatalf("%+v isn't right", h)
	}
	k.m.Store(plan.Header(k.c, slot), w)
}

// node has a slot be a node, of as many fields as there are, that name these records.
func (k *bench) node(slot int, fields ...int) {
	k.heads(slot, api.Header{Kind: api.Node, Arity: len(fields)})
	for i, rec := range fields {
		k.m.Store(plan.Body(k.c, slot, i), uint64(rec+1))
	}
}

// record has a slot be a record.
func (k *bench) record(slot, val int, stamped uint64, next int) {
	k.heads(slot, api.Header{Kind: api.Record})
	k.m.Store(plan.Body(k.c, slot, value), uint64(val+1))
	k.m.Store(plan.Body(k.c, slot, stamp), stamped)
	k.m.Store(plan.Body(k.c, slot, older), uint64(next+1))
}

// lay is what lays a record with a value on a field, whatever that has.
func (k *bench) lay(node, i, rec, val int) *field.Lay {
	k.heads(rec, api.Header{Kind: api.Record})
	k.m.Store(plan.Body(k.c, rec, value), uint64(val+1))
	k.m.Store(plan.Body(k.c, rec, stamp), 0)
	return field.NewLay(k.c, node, i, rec, -2, 0, k.b)
}

// links gives a field a value, by a record.
func (k *bench) links(node, i, rec, val int) {
	k.ends(k.lay(node, i, rec, val))
}

// turns turns the clock, and is the view.
func (k *bench) turns() uint64 {
	u := field.NewTurn(k.c, k.b)
	k.ends(u)
	return u.View
}

// walk is one from a start on, in a view.
func (k *bench) walk(start int, view uint64) *iter.Walk {
	w := iter.NewWalk(k.c, start, view, k.b)
	if w == nil {
		k.t.Helper()
		k.t.Fatalf("NewWalk(%+v, %d, %d): nil", k.c, start, view)
	}
	return w
}

// isWalk holds how many nodes are to come, and the first of them, against what they should be.
func (k *bench) isWalk(w *iter.Walk, left, front int) {
	if w.Left() != left || w.Front() != front {
		k.t.Helper()
		k.t.Fatalf("Left %d, Front %d, want %d, %d", w.Left(), w.Front(), left, front)
	}
}

// goes has a walk go on, and holds the node that it tells against what it should.
func (k *bench) goes(w *iter.Walk, want int) {
	k.t.Helper()
	same(k.t, "Go", w.Go(), want)
}

// step has a machine take one step, at the next time, and holds what it answers, and the one touch it does, against what it should.
func (k *bench) step(s mem.Machine, done bool, touch api.Touch) {
	k.b.Now++
	before := k.m.Touches()
	if got := s.Step(k.m); got != done {
		k.t.Helper()
		k.t.Fatalf("Step: %v, want %v (last touch %+v)", got, done, k.m.Last())
	}
	if k.m.Touches() != before+1 || k.m.Last() != touch {
		k.t.Helper()
		k.t.Fatalf("%d touches, the last %+v, want one, %+v", k.m.Touches()-before, k.m.Last(), touch)
	}
}

// loads has a machine take steps that load these words, of which none is the last one.
func (k *bench) loads(s mem.Machine, places ...int) {
	for _, at := range places {
		k.t.Helper()
		k.step(s, false, load(at, k.m.Words()[at]))
	}
}

// lastLoads is loads, but the last one has the machine's work be done.
func (k *bench) lastLoads(s mem.Machine, places ...int) {
	k.t.Helper()
	last := places[len(places)-1]
	k.loads(s, places[:len(places)-1]...)
	k.step(s, true, load(last, k.m.Words()[last]))
	k.over(s)
}

// head is where a slot's header stands.
func (k *bench) head(slot int) int {
	return plan.Header(k.c, slot)
}

// body is where a word of a slot's body stands.
func (k *bench) body(slot, i int) int {
	return plan.Body(k.c, slot, i)
}

// ends takes steps till the work is done, and is how many; each of them is one touch.
func (k *bench) ends(s mem.Machine) int {
	k.t.Helper()
	for n := range 100000 {
		k.b.Now++
		before := k.m.Touches()
		done := s.Step(k.m)
		if k.m.Touches() != before+1 {
			k.t.Fatalf("%d touches in one step", k.m.Touches()-before)
		}
		if done {
			return n + 1
		}
	}
	k.t.Fatal("the work isn't done behind 100000 steps")
	return 0
}

// over asks a machine whose work is done for more steps, at later times: nothing is done any more.
func (k *bench) over(s mem.Machine) {
	touches, now := k.m.Touches(), k.b.Now
	for range 3 {
		k.b.Now += 100
		if !s.Step(k.m) {
			k.t.Helper()
			k.t.Fatal("Step behind the last one: false")
		}
	}
	k.b.Now = now
	if k.m.Touches() != touches {
		k.t.Helper()
		k.t.Fatalf("steps behind the last one: %d touches", k.m.Touches()-touches)
	}
}

// all is the nodes that a walk comes to, to its end.
func (k *bench) all(w *iter.Walk) []int {
	k.t.Helper()
	var l []int
	for w.Left() > 0 {
		node := w.Front()
		k.ends(w)
		k.over(w)
		k.goes(w, node)
		l = append(l, node)
	}
	k.isWalk(w, 0, none)
	k.over(w)
	k.goes(w, none)
	return l
}

// comes holds the nodes that a walk comes to, to its end, against those that it should.
func (k *bench) comes(w *iter.Walk, want ...int) {
	if got := k.all(w); !slices.Equal(got, want) {
		k.t.Helper()
		k.t.Fatalf("the walk comes to %v, want %v", got, want)
	}
}

// load is the touch of a word that is loaded.
func load(at int, w uint64) api.Touch {
	return api.Touch{Kind: api.TLoad, At: at, Was: w, Now: w}
}

// swap is the touch of a word that is swapped.
func swap(at int, was, now uint64) api.Touch {
	return api.Touch{Kind: api.TSwap, At: at, Was: was, Now: now}
}

// same holds a thing against what it should be.
func same[N comparable](t *testing.T, what string, got, want N) {
	if got != want {
		t.Helper()
		t.Fatalf("%s: %v, want %v", what, got, want)
	}
}

// draw is the next of a row of numbers that looks like no order at all, below n.
func draw(seed *uint64, n int) int {
	*seed = *seed*6364136223846793005 + 1442695040888963407
	return int(*seed>>33) % n
}
