package collect_test

import (
	"slices"
	"testing"

	"withy/api"
	"withy/arena"
	"withy/collect"
	"withy/epoch"
	"withy/field"
	"withy/mem"
	"withy/plan"
	"withy/shade"
	"withy/stack"
	"withy/turn"
)

// task is a part of a call, by steps of one touch at most; it tells when it is over.
type task func(m *mem.Mem) bool

// once is a task of one step.
func once(do func(m *mem.Mem)) task {
	return func(m *mem.Mem) bool {
		do(m)
		return true
	}
}

// later is a task of a machine that is made when it is come to: what it is made of isn't known before.
func later(maker func() mem.Machine) task {
	var s mem.Machine
	return func(m *mem.Mem) bool {
		if s == nil {
			s = maker()
		}
		return s.Step(m)
	}
}

// held is what an entry holds: the slot, and the generation that it was of.
type held struct{ slot, gen int }

// client does calls, one behind the other, as the chapters say that clients do.
type client struct {
	f       *scene
	who     int
	pin     *epoch.Pin
	pinned  bool
	tasks   []task
	entries []held
	start   int // its walk's, or none
	view    uint64
}

// scene is a collector and clients in one memory.
type scene struct {
	*bench
	book    *field.Book
	clients []*client
	made    int // how many slots were made something
	full    int // how often there was none
	laid    int
	seen    int // how often a walk came to a node
}

// newScene is one in which nothing was done.
func newScene(t *testing.T, c api.Config) *scene {
	f := &scene{bench: newBench(t, c), book: field.NewBook()}
	for who := range c.Clients {
		k := &client{f: f, who: who, start: none}
		k.entries = slices.Repeat([]held{{none, 0}}, c.Handles)
		f.clients = append(f.clients, k)
	}
	return f
}

// some is an entry that holds a slot, or that holds none; none, without such a one.
func (k *client) some(holds bool, seed *uint64) int {
	var l []int
	for i, e := range k.entries {
		if (e.slot != none) == holds {
			l = append(l, i)
		}
	}
	if len(l) == 0 {
		return none
	}
	return l[draw(seed)%len(l)]
}

// begin begins any call that there is room for.
func (k *client) begin(seed *uint64) {
	k.pin = epoch.NewPin(k.f.c, k.who)
	pin := func(m *mem.Mem) bool {
		k.pinned = k.pin.Step(m)
		return k.pinned
	}
	leave := once(func(m *mem.Mem) {
		epoch.NewLeave(k.f.c, k.who).Step(m)
		k.pinned = false
	})
	k.tasks = slices.Concat([]task{pin}, k.call(seed), []task{leave})
}

// call is the tasks of a call.
func (k *client) call(seed *uint64) []task {
	from, to := k.some(true, seed), k.some(false, seed)
	i := 0
	if k.f.c.Arity > 0 {
		i = min(draw(seed)%k.f.c.Arity, draw(seed)%k.f.c.Arity) // more often a low one, so that fields come to have many records
	}
	switch kind := draw(seed) % 12; {
	case from == none && k.start != none && kind < 6:
		return k.closes()
	case from == none:
		return k.makes(to)
	case kind < 3 && k.start != none && to != none:
		return k.sees(i, to)
	case kind < 3 && to != none:
		return k.makes(to)
	case kind < 4 && to != none:
		return k.loads(k.entries[from].slot, i, to)
	case kind < 8:
		return k.links(k.entries[from].slot, i, seed)
	case kind < 10 && k.start == none:
		return k.opens(k.entries[from].slot)
	case kind < 9:
		return k.closes()
	}
	return k.releases(from)
}

// hold stores an entry: what it holds is told by whatever came ahead.
func (k *client) hold(to int, slot func() int) task {
	return once(func(m *mem.Mem) {
		if s := slot(); s != none {
			k.entries[to] = held{s, k.f.head(s).Gen}
			m.Store(plan.Entry(k.f.c, k.who, to), 3<<32+uint64(s)+1)
		}
	})
}

// make makes a slot something.
func (k *client) make(s **arena.Make, kind, arity int, body ...uint64) task {
	work := later(func() mem.Machine {
		*s = arena.NewMake(k.f.c, kind, arity, k.pin.E, body)
		return *s
	})
	return func(m *mem.Mem) bool {
		over := work(m)
		if over && (*s).Full {
			k.f.full++
		} else if over {
			k.f.made++
		}
		return over
	}
}

// makes makes a node.
func (k *client) makes(to int) []task {
	var s *arena.Make
	return []task{k.make(&s, api.Node, k.f.c.Arity), k.hold(to, func() int { return s.Slot })}
}

// loads reads a field, and holds what it has.
func (k *client) loads(node, i, to int) []task {
	s := field.NewRead(k.f.c, node, i, k.f.book)
	val := func() int {
		if s == nil { // nodes without fields
			return none
		}
		return s.Val
	}
	return []task{s.Step, k.hold(to, val)}
}

// links gives a field another node that the client holds, or none; sometimes only if it has what is expected.
func (k *client) links(node, i int, seed *uint64) []task {
	val, expect := none, -2
	if draw(seed)%3 > 0 {
		val = k.entries[draw(seed)%len(k.entries)].slot
	}
	if draw(seed)%4 == 0 {
		expect = k.entries[draw(seed)%len(k.entries)].slot
	}
	var s *arena.Make
	var lay *field.Lay
	work := later(func() mem.Machine {
		lay = field.NewLay(k.f.c, node, i, s.Slot, expect, k.pin.E, k.f.book)
		return lay
	})
	return []task{k.make(&s, api.Record, 0, uint64(val+1)), work, once(func(*mem.Mem) {
		if lay != nil && lay.Laid {
			k.f.laid++
		}
	})}
}

// shades has a slot be found, where there is a barrier.
func (k *client) shades(slot int) task {
	return later(func() mem.Machine {
		if !turn.Fenced(k.pin.E) {
			return (*shade.Shade)(nil)
		}
		return shade.NewShade(k.f.c, slot, k.pin.E)
	})
}

// stores stores a word.
func stores(at int, w uint64) task {
	return once(func(m *mem.Mem) { m.Store(at, w) })
}

// releases lets a slot go.
func (k *client) releases(from int) []task {
	return []task{k.shades(k.entries[from].slot), once(func(m *mem.Mem) {
		k.entries[from].slot = none
		m.Store(plan.Entry(k.f.c, k.who, from), 3<<32)
	})}
}

// opens begins a walk.
func (k *client) opens(slot int) []task {
	s := field.NewTurn(k.f.c, k.f.book)
	return []task{stores(plan.View(k.f.c, k.who), 1), stores(plan.Start(k.f.c, k.who), uint64(slot)+1), s.Step, once(func(m *mem.Mem) {
		k.start, k.view = slot, s.View
		m.Store(plan.View(k.f.c, k.who), s.View+2)
	})}
}

// sees holds what a field of the walk's start had when it was opened.
func (k *client) sees(i, to int) []task {
	s := field.NewSee(k.f.c, k.start, i, k.view, k.f.book)
	val := func() int {
		if s == nil || s.Val == none {
			return none
		}
		k.f.seen++
		same(k.f.t, "kind of what a walk comes to", k.f.head(s.Val).Kind, api.Node)
		return s.Val
	}
	return []task{s.Step, k.hold(to, val)}
}

// closes ends the walk.
func (k *client) closes() []task {
	slot := k.start
	k.start = none
	return []task{k.shades(slot), stores(plan.Start(k.f.c, k.who), 0), stores(plan.View(k.f.c, k.who), 0)}
}

// steps has a client go a step on, if it is busy, or may begin a call.
func (f *scene) steps(k *client, seed *uint64) {
	if len(k.tasks) == 0 {
		k.begin(seed)
	}
	before := f.m.Touches()
	f.book.Now++
	if k.tasks[0](f.m) {
		k.tasks = k.tasks[1:]
	}
	if f.m.Touches() > before+1 {
		f.t.Fatalf("%d touches in one step", f.m.Touches()-before)
	}
}

// check: P2 behind each step: what can be reached, through all older records too, is a node or a record, and not in the free list; what is held is of the generation that it was of; and P8.2.
func (f *scene) check() {
	f.t.Helper()
	words := f.m.Words()
	list := stack.List(f.c, words)
	named := roots(f.c, words)
	for slot, is := range reached(f.c, words, 0) {
		if is {
			named = append(named, names(f.c, words, slot, 0)...)
		}
		if is && slices.Contains(list, slot) {
			f.t.Fatalf("the slot %d can be reached, and is in the free list", slot)
		}
	}
	for _, w := range named {
		if w != 0 && !lives(f.c, words, w) {
			f.t.Fatalf("the slot %d can be reached: %+v", w-1, f.head(int(w)-1))
		}
	}
	for _, k := range f.clients {
		for _, e := range k.entries {
			if e.slot != none {
				same(f.t, "generation of a slot that is held", int(words[plan.Header(f.c, e.slot)]>>16&(1<<32-1)), e.gen)
			}
		}
		if k.pinned && f.k.E != k.pin.E && f.k.E != k.pin.E+1 {
			f.t.Fatalf("the epoch is %d, and a client is pinned in %d", f.k.E, k.pin.E)
		}
	}
	if n := shade.Grays(f.c, words); uint64(n) > words[plan.Grays] {
		f.t.Fatalf("the grays are %d, of %d gray slots", words[plan.Grays], n)
	}
}

// picks has any of them go so many steps on, the collector as often as all clients, or oftener, because its cycles are long; and often several steps in a row.
func (f *scene) picks(steps int, seed *uint64) {
	f.t.Helper()
	who, many := 0, len(f.clients)*(2+draw(seed)%4)
	calm := []int{1, 3, 9, 50}[draw(seed)%4]
	for range steps {
		if draw(seed)%calm == 0 {
			who = draw(seed) % many
		}
		if who < len(f.clients) {
			f.steps(f.clients[who], seed)
		} else {
			f.step()
		}
		f.check()
	}
}

// quiet has all calls end, by turns with the collector.
func (f *scene) quiet() {
	f.t.Helper()
	for busy := true; busy; {
		busy = false
		for _, k := range f.clients {
			if len(k.tasks) > 0 {
				busy = true
				f.steps(k, nil)
				f.check()
			}
		}
		f.step()
		f.check()
	}
}

// collects has the collector go on alone, till two cycles and a rest are behind it for certain: within four times Bound all is collected.
func (f *scene) collects() came {
	f.t.Helper()
	words := f.m.Words()
	n := f.till(f.k.E + 9)
	for turn.At(f.k.E) != 1i {
		n += f.till(f.k.E + 1)
	}
	if n > 4*collect.Bound(f.c) {
		f.t.Fatalf("%d steps, and Bound is %d", n, collect.Bound(f.c))
	}
	f.check()
	return f.isCollected(words)
}

// P15.1 to P15.3, with P2 and P4: a collector while clients make, link, unlink, load, let go and walk, in many orders of all steps: nothing that can be reached is ever gone, and, once no call is under way, all else goes.
func TestClients(t *testing.T) {
	var all came
	var sum scene
	for _, c := range []api.Config{
		{Slots: 1, Clients: 1, Handles: 1, Gens: api.MaxGens},
		{Slots: 6, Arity: 1, Clients: 2, Handles: 2, Gens: api.MaxGens},
		{Slots: 12, Arity: 1, Clients: 2, Handles: 3, Gens: 50, Stack: 1},
		{Slots: 20, Arity: 2, Clients: 2, Handles: 3, Gens: 2, Stack: 3},
		{Slots: 40, Arity: 1, Clients: 3, Handles: 4, Gens: 5, Stack: 1},
		{Slots: 64, Arity: 8, Clients: 8, Handles: 4, Gens: api.MaxGens, Stack: 64},
	} {
		for n := range uint64(12) {
			seed := n
			f := newScene(t, c)
			for range 3 {
				f.picks(2500, &seed)
				f.quiet()
				one := f.collects()
				all = came{all.stayed + one.stayed, all.back + one.back, all.dead + one.dead}
			}
			sum.made, sum.full, sum.laid, sum.seen = sum.made+f.made, sum.full+f.full, sum.laid+f.laid, sum.seen+f.seen
		}
	}
	if all.stayed < 100 || all.back < 100 || all.dead < 20 || sum.made < 1000 || sum.full < 100 || sum.laid < 1000 || sum.seen < 100 {
		t.Errorf("%+v, made %d, full %d, laid %d, seen %d: too few", all, sum.made, sum.full, sum.laid, sum.seen)
	}
}

// Rule 6: the same steps in the same order come to the same words.
func TestSameStepsSameWords(t *testing.T) {
	run := func() []uint64 {
		seed := uint64(11)
		f := newScene(t, api.Config{Slots: 12, Arity: 2, Clients: 3, Handles: 2, Gens: 50, Stack: 1})
		f.picks(4000, &seed)
		return f.m.Words()
	}
	if first := run(); !slices.Equal(first, run()) {
		t.Error("the same steps came to other words")
	}
}
