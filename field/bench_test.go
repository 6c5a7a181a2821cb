package field_test

import (
	"math"
	"testing"

	"withy/api"
	"withy/field"
	"withy/head"
	"withy/mem"
	"withy/plan"
)

// none is told where there is no slot, and no point.
const none = -1

// whatever is an expect that takes whatever the field has.
const whatever = -2

// config is one with so many slots, and the least of all else.
func config(slots int) api.Config {
	return api.Config{Slots: slots, Clients: 1, Handles: 1, Gens: 1}
}

// greatest is the config with the most of everything.
func greatest() api.Config {
	return api.Config{Slots: 64, Arity: 8, Clients: 8, Handles: 16, Gens: 1 << 20, Stack: 64}
}

// configs are right ones, with the words at unlike places.
func configs() []api.Config {
	return []api.Config{config(1), config(2), config(5), {Slots: 6, Arity: 4, Clients: 2, Handles: 3, Gens: 7, Stack: 9}, greatest()}
}

// wrongConfigs are configs in which one number is beyond its lowest or highest.
func wrongConfigs() []api.Config {
	l := []api.Config{{}}
	for _, c := range []api.Config{config(3), greatest()} {
		for _, n := range []struct {
			at        *int
			low, high int
		}{{&c.Slots, 1, 64}, {&c.Arity, 0, 8}, {&c.Clients, 1, 8}, {&c.Handles, 1, 16}, {&c.Gens, 1, 1 << 20}, {&c.Stack, 0, 64}} {
			was := *n.at
			for _, v := range []int{n.low - 1, n.high + 1, math.MinInt, math.MaxInt} {
				*n.at = v
				l = append(l, c)
			}
			*n.at = was
		}
	}
	return l
}

// bodySize is how many words a slot's body has.
func bodySize(c api.Config) int {
	return max(c.Arity, 3)
}

// noSlots are words that name no slot of a config, though some of their bits would.
func noSlots(c api.Config) []uint64 {
	n := uint64(c.Slots)
	return []uint64{n + 1, n + 2, 65, 1 << 16, 1<<16 + 1, 1<<31 + 1, 1 << 32, 1<<32 + 1, 1 << 63, 1<<63 + 1, math.MaxUint64 - 1, math.MaxUint64}
}

// header is a header's word.
func header(t *testing.T, h api.Header) uint64 {
	w, ok := head.Pack(h)
	if !ok {
		t.Helper()
		t.Fatalf("%+v isn't right", h)
	}
	return w
}

// black is the mark that says that a slot was reached in an epoch's cycle: 1 in the cycles 0, 2 and so on.
func black(e uint64) int {
	return 1 - int(e>>2&1)
}

// bench is a memory with a book, in which machines take steps, each at a time of its own.
type bench struct {
	t *testing.T
	c api.Config
	m *mem.Mem
	b *field.Book
}

func newBench(t *testing.T, c api.Config) *bench {
	return &bench{t: t, c: c, m: plan.Memory(c), b: field.NewBook()}
}

// body is where a word of a slot's body stands.
func (k *bench) body(slot, i int) int {
	return plan.Body(k.c, slot, i)
}

// record fills a slot's body as a record's; the slots are told as numbers.
func (k *bench) record(rec, val int, stamp uint64, older int) {
	k.m.Store(k.body(rec, 0), uint64(val+1))
	k.m.Store(k.body(rec, 1), stamp)
	k.m.Store(k.body(rec, 2), uint64(older+1))
}

// step has a machine take one step, at the next time, and holds what it answers, and the one touch it does, against what it should.
func (k *bench) step(s mem.Machine, done bool, touch api.Touch) {
	k.b.Now++
	before := k.m.Touches()
	if got := s.Step(k.m); got != done {
		k.t.Helper()
		k.t.Fatalf("Step: %v, want %v (last touch %+v)", got, done, k.m.Last())
	}
	if k.m.Touches() != before+1 || k.m.Last() != touch {
		k.t.Helper()
		k.t.Fatalf("%d touches, the last %+v, want one, %+v", k.m.Touches()-before, k.m.Last(), touch)
	}
}

// steps has a machine take one step for each touch, the last of which has its work be done.
func (k *bench) steps(s mem.Machine, touches []api.Touch) {
	for i, touch := range touches {
		k.step(s, i == len(touches)-1, touch)
	}
	k.over(s)
}

// ends takes steps till the work is done, and is how many.
func (k *bench) ends(s mem.Machine) int {
	k.t.Helper()
	for n := range 1000 {
		k.b.Now++
		if s.Step(k.m) {
			return n + 1
		}
	}
	k.t.Fatal("the work isn't done behind 1000 steps")
	return 0
}

// over asks a machine whose work is done for more steps, at later times: nothing is done any more.
func (k *bench) over(s mem.Machine) {
	touches, now := k.m.Touches(), k.b.Now
	for range 3 {
		k.b.Now += 100
		if !s.Step(k.m) {
			k.t.Helper()
			k.t.Fatal("Step behind the last one: false")
		}
	}
	k.b.Now = now
	if k.m.Touches() != touches {
		k.t.Helper()
		k.t.Fatalf("steps behind the last one: %d touches", k.m.Touches()-touches)
	}
}

// load is the touch of a word that is loaded.
func load(at int, w uint64) api.Touch {
	return api.Touch{Kind: api.TLoad, At: at, Was: w, Now: w}
}

// store is the touch of a word that is stored.
func store(at int, was, now uint64) api.Touch {
	return api.Touch{Kind: api.TStore, At: at, Was: was, Now: now}
}

// swap is the touch of a word that is swapped; one that isn't done leaves it as it was.
func swap(at int, was, now uint64) api.Touch {
	return api.Touch{Kind: api.TSwap, At: at, Was: was, Now: now}
}

// add is the touch of a word that something is added to.
func add(at int, was, now uint64) api.Touch {
	return api.Touch{Kind: api.TAdd, At: at, Was: was, Now: now}
}

// same holds a number against what it should be.
func same[N comparable](t *testing.T, what string, got, want N) {
	if got != want {
		t.Helper()
		t.Fatalf("%s: %v, want %v", what, got, want)
	}
}

// isRead holds what a Read tells against what it should.
func isRead(t *testing.T, r *field.Read, rec, val, point int) {
	if r.Rec != rec || r.Val != val || r.Point != point {
		t.Helper()
		t.Fatalf("Rec %d, Val %d, Point %d, want %d, %d, %d", r.Rec, r.Val, r.Point, rec, val, point)
	}
}

// isLay holds what a Lay tells against what it should.
func isLay(t *testing.T, l *field.Lay, laid bool, point int) {
	if l.Laid != laid || l.Point != point {
		t.Helper()
		t.Fatalf("Laid %v, Point %d, want %v, %d", l.Laid, l.Point, laid, point)
	}
}

// isTurn holds what a Turn tells against what it should.
func isTurn(t *testing.T, u *field.Turn, view uint64, point int) {
	if u.View != view || u.Point != point {
		t.Helper()
		t.Fatalf("View %d, Point %d, want %d, %d", u.View, u.Point, view, point)
	}
}
