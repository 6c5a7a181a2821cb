package world_test

import (
	"math"
	"slices"
	"testing"

	"withy/api"
	"withy/collect"
	"withy/mem"
	"withy/plan"
	"withy/world"
)

// nothing is all that a world in which nothing was done tells.
func nothing(c api.Config, done bool) all {
	return all{done: done, busy: make([]bool, c.Clients), told: make([][]uint64, c.Clients), words: plan.Memory(c).Words()}
}

// ops is a program of so many operations, each of which does nothing.
func ops(n int) []api.Op {
	return make([]api.Op, n)
}

// P22.1: a world in which nothing was done, of any right config, with any programs.
func TestNew(t *testing.T) {
	for _, c := range configs() {
		nothing(c, true).isAll(newBench(t, c))
		nothing(c, true).isAll(newBench(t, c, nil))
		nothing(c, true).isAll(newBench(t, c, []api.Op{}))
		nothing(c, false).isAll(newBench(t, c, ops(1)))
		nothing(c, true).isAll(newBench(t, c, make([][]api.Op, c.Clients)...))
		last := make([][]api.Op, c.Clients)
		last[c.Clients-1] = []api.Op{makes(0)}
		nothing(c, false).isAll(newBench(t, c, last...))
	}
}

// P22.1: as many programs as clients, and one more.
func TestHowManyPrograms(t *testing.T) {
	for clients := 1; clients <= api.MaxClients; clients++ {
		c := config(4, 1, clients, 2)
		for n := range 12 {
			for _, program := range [][]api.Op{nil, {}, {makes(0)}} {
				l := make([][]api.Op, n)
				for i := range l {
					l[i] = program
				}
				same(t, "a world", world.New(c, l) != nil, n <= clients)
			}
		}
	}
}

// P22.1: programs of MaxOps operations, and one more; whichever client's.
func TestHowManyOperations(t *testing.T) {
	for _, n := range []int{0, 1, 63, 64, 65, 66, 128, 1000} {
		for who := range 3 {
			l := [][]api.Op{ops(64), ops(3), nil}
			l[who] = ops(n)
			same(t, "a world", world.New(config(4, 1, 3, 2), l) != nil, n <= 64)
		}
	}
	k := newBench(t, config(4, 1, 1, 2), ops(64))
	same(t, "answers", len(k.alone(0)), 64)
	same(t, "Now", k.w.Now(), 64)
	same(t, "Done", k.w.Done(), true)
}

// Rule 4: what is handed in is neither changed nor kept, its spare room neither.
func TestProgramsAreNotKept(t *testing.T) {
	c := config(4, 1, 2, 2)
	room := []api.Op{makes(1), compare(own(0), own(0)), {Kind: 77}, {Kind: 78}}
	l := [][]api.Op{room[:2], {makes(0)}}
	k := newBench(t, c, l...)
	room[0], room[1], l[1][0], l[1] = api.Op{}, api.Op{}, api.Op{}, nil
	k.answers(0, gives(handle(0, 0, 1)), yes)
	k.answers(1, gives(handle(1, 0, 1)))
	if !slices.Equal(room, []api.Op{{}, {}, {Kind: 77}, {Kind: 78}}) || l[1] != nil {
		t.Errorf("what was handed in: %v, %v", room, l)
	}
	picks := []int{0, 1, 2, 3, -1}
	k.w.Run(picks)
	if !slices.Equal(picks, []int{0, 1, 2, 3, -1}) {
		t.Errorf("the picks: %v", picks)
	}
}

// Rule 4: what is answered is new memory.
func TestAnswersAreNewMemory(t *testing.T) {
	k := newBench(t, config(4, 1, 2, 2), []api.Op{makes(1), makes(1), makes(1)})
	k.alone(0)
	was := k.all()
	events, told, words := k.w.Events(), k.w.Told(0), k.w.Words()
	for i := range events {
		events[i] = api.Event{Client: 9}
	}
	for i := range told {
		told[i] = 9
	}
	for i := range words {
		words[i] = 9
	}
	_ = append(events[:1], api.Event{Client: 9})
	_ = append(told[:1], 9)
	was.isAll(k)
	k.rests()
	same(t, "an event of before", events[0], api.Event{Client: 9})
}

// newTouches are the touches of a New of arity 0 in a new memory of one slot and one client, with nobody else about: their kinds and places.
func newTouches() [][2]int {
	const pin, entry, header = 4, 5, 8
	return [][2]int{
		{api.TLoad, plan.Epoch}, {api.TStore, pin}, {api.TLoad, plan.Epoch},
		{api.TLoad, plan.Top}, {api.TLoad, header + 1}, {api.TSwap, plan.Top}, {api.TLoad, header},
		{api.TStore, header + 2}, {api.TStore, header + 3}, {api.TStore, header + 4}, {api.TStore, header},
		{api.TStore, entry}, {api.TStore, pin},
	}
}

// P22.2, P22.4: a New, pick by pick: the first one begins it and goes a step; at the last one it is over; so are its Release and what is told of both.
func TestPickByPick(t *testing.T) {
	k := newBench(t, least(), []api.Op{makes(0), release(own(0))})
	for i, want := range newTouches() {
		same(t, "Busy", k.w.Busy(0), i > 0)
		same(t, "events", len(k.w.Events()), 0)
		same(t, "told", len(k.w.Told(0)), 0)
		k.pick(0)
		last := k.w.Last()
		same(t, "Now", k.w.Now(), i+1)
		same(t, "Touches", k.w.Touches(), i+1)
		same(t, "the touch", [2]int{last.Kind, last.At}, want)
		same(t, "Done", k.w.Done(), false)
	}
	h := handle(0, 0, 1)
	first := api.Event{Begun: 1, Point: 12, Ended: 13, Behind: true, Call: api.Call{Kind: api.New}, Answer: gives(h)}
	same(t, "the event", k.last(), first)
	same(t, "Busy", k.w.Busy(0), false)
	same(t, "Holds", k.w.Holds(0, h), 0)
	same(t, "told", k.w.Told(0)[0], h)
	k.picks(0, 5)
	second := api.Event{Op: 1, Begun: 14, Point: 17, Ended: 18, Behind: true, Call: api.Call{Kind: api.Release, H: h}}
	if l := k.w.Events(); !slices.Equal(l, []api.Event{first, second}) {
		t.Fatalf("Events: %+v", l)
	}
	if l := k.w.Told(0); !slices.Equal(l, []uint64{h, 0}) {
		t.Fatalf("Told: %v", l)
	}
	same(t, "Holds", k.w.Holds(0, h), none)
	same(t, "Done", k.w.Done(), true)
	k.refuses(0)
}

// P22.2: what is told at once is over with the pick that begins it, without a touch.
func TestToldAtOnce(t *testing.T) {
	k := newBench(t, config(3, 1, 1, 1), []api.Op{{Kind: 11}, makes(2), makes(1), makes(1), compare(own(2), own(2)), compare(own(2), raw(7))})
	for i, want := range []api.Answer{only(api.ErrOp), only(api.ErrArg), gives(handle(0, 0, 1)), only(api.ErrRoom), yes, only(api.ErrHandle)} {
		touches, now := k.w.Touches(), k.w.Now()
		n := k.ends(0)
		e := k.last()
		same(t, "the answer", e.Answer, want)
		same(t, "the operation", e.Op, i)
		same(t, "Begun", e.Begun, now+1)
		same(t, "Ended", e.Ended, now+n)
		if i != 2 {
			same(t, "steps", n, 1)
			same(t, "touches", k.w.Touches(), touches)
			same(t, "Point", e.Point, now+1)
		}
	}
	same(t, "Now", k.w.Now(), 18) // a New takes 13, each other one 1
}

// P22.2: an operation has what was answered till its first step, and not what is answered while it is under way.
func TestAnsweredTillThen(t *testing.T) {
	mine := handle(0, 0, 1)
	for ahead := range 20 {
		k := newBench(t, config(9, 1, 2, 4), []api.Op{makes(1)}, []api.Op{load(of(0, 0), 0), load(of(0, 0), 0)})
		k.w.Run(slices.Repeat([]int{0}, ahead))
		k.ends(1)
		want := uint64(0)
		if ahead >= 13 {
			want = mine
		}
		same(t, "the call", k.last().Call, api.Call{Kind: api.Load, H: want})
		same(t, "the answer", k.last().Answer, only(api.ErrHandle))
		k.alone(0)
		k.ends(1)
		same(t, "the call", k.last().Call, api.Call{Kind: api.Load, H: mine})
	}
}

// P22.2: what the client itself was answered; of what isn't over, and of what isn't there, 0; and raw numbers as they are.
func TestArguments(t *testing.T) {
	l := []api.Op{makes(1), makes(1), release(own(1)), load(own(4), 0), load(own(9), 0), load(of(0, 0), 0), link(own(0), 0, raw(5)), swap(own(0), 0, raw(6), raw(7)), load(of(1, 0), 0), load(of(5, 0), 0), load(own(2), 0), {Kind: 12, N: 4, H: own(0), X: raw(3)}}
	k := newBench(t, config(9, 1, 2, 4), l, []api.Op{makes(0)})
	k.alone(1)
	k.alone(0)
	h, x := handle(0, 0, 1), handle(0, 1, 1)
	want := []api.Call{
		{Kind: api.New, N: 1}, {Kind: api.New, N: 1}, {Kind: api.Release, H: x}, {Kind: api.Load}, {Kind: api.Load}, {Kind: api.Load, H: h},
		{Kind: api.Link, H: h, X: 5}, {Kind: api.Swap, H: h, X: 6, Y: 7}, {Kind: api.Load, H: handle(1, 0, 1)}, {Kind: api.Load}, {Kind: api.Load}, {Kind: 12},
	}
	for i, e := range k.w.Events()[1:] {
		same(t, "the operation", e.Op, i)
		same(t, "the call", e.Call, want[i])
	}
	if got := k.w.Told(0); !slices.Equal(got, []uint64{h, x, 0, 0, 0, 0, 0, 0, 0, 0, 0, 0}) {
		t.Errorf("Told: %x", got)
	}
	if got := k.w.Told(1); !slices.Equal(got, []uint64{handle(1, 0, 1)}) {
		t.Errorf("Told: %x", got)
	}
}

// P22.2: the collector alone goes as one that is no world's; nobody who has nothing to do is in its way.
func TestCollectorAlone(t *testing.T) {
	for _, c := range configs() {
		k := newBench(t, c)
		m, gc := plan.Memory(c), collect.NewCollect(c)
		for i := range 3 * collect.Bound(c) {
			k.pick(c.Clients)
			gc.Step(m)
			same(t, "Last", k.w.Last(), m.Last())
			same(t, "Touches", k.w.Touches(), i+1)
			same(t, "Epoch", k.w.Epoch(), gc.E)
			same(t, "Cycles", k.w.Cycles(), gc.Cycles)
			same(t, "Done", k.w.Done(), true)
		}
		if k.w.Cycles() < 3 {
			t.Errorf("%+v: %d cycles", c, k.w.Cycles())
		}
	}
}

// noPicks are numbers of nobody.
func noPicks(c api.Config) []int {
	n := c.Clients
	return []int{math.MinInt, math.MinInt + 1, -1 << 32, -9, -2, -1, n + 1, n + 2, n + 9, 255, 1 << 32, 1<<32 + n, math.MaxInt - 1, math.MaxInt}
}

// P22.2: picks of nobody, and of clients that have nothing left, or never had, do nothing; of those that have something under way, or left, they do.
func TestPicksOfNobody(t *testing.T) {
	for _, c := range configs() {
		k := newBench(t, c, []api.Op{makes(0), {}})
		for range 4 {
			for _, who := range noPicks(c) {
				k.refuses(who)
			}
			for who := 1; who < c.Clients; who++ {
				k.refuses(who)
			}
			k.pick(0)
		}
		k.alone(0)
		k.refuses(0)
		k.pick(c.Clients)
		k.refuses(0)
		same(t, "Done", k.w.Done(), true)
	}
}

// P22.2: Run picks one by one, and counts those that count.
func TestRun(t *testing.T) {
	c := config(4, 1, 2, 2)
	l := [][]api.Op{{makes(1), {}}, {{}, {}}}
	picks := []int{0, 1, 2, 3, -1, 1, 1, 1, 0, 2, 0, 0, 0, 2, 7, 0, 0, 0, 0, 0, 0, 0, 0, 0, 0, 0, math.MaxInt, 2}
	k, one := newBench(t, c, l...), newBench(t, c, l...)
	n := 0
	for _, who := range picks {
		if one.w.Pick(who) {
			n++
		}
	}
	same(t, "Run", k.w.Run(picks), n)
	same(t, "how many counted", n, 20)
	one.all().isAll(k)
	was := k.all()
	for _, none := range [][]int{nil, {}, {-1}, {3, 3, 3}, {0, 1, 0, 1}} {
		same(t, "Run", k.w.Run(none), 0)
		was.isAll(k)
	}
	same(t, "Run", k.w.Run([]int{0, 2, 0, 2}), 2)
}

// P22.4: events stand in the order in which they ended, also where one began ahead of another one, or ended a pick behind it.
func TestOrderOfEvents(t *testing.T) {
	k := newBench(t, config(9, 1, 3, 2), []api.Op{makes(1), {}}, []api.Op{{}, makes(0)}, []api.Op{{}})
	k.picks(0, 12)
	k.pick(1)
	k.pick(2)
	k.picks(1, 12)
	k.pick(0)
	k.pick(1)
	k.pick(0)
	type short struct{ client, op, begun, ended int }
	var got []short
	for _, e := range k.w.Events() {
		got = append(got, short{e.Client, e.Op, e.Begun, e.Ended})
	}
	if want := []short{{1, 0, 13, 13}, {2, 0, 14, 14}, {0, 0, 1, 27}, {1, 1, 15, 28}, {0, 1, 29, 29}}; !slices.Equal(got, want) {
		t.Errorf("Events: %v, want %v", got, want)
	}
	same(t, "Done", k.w.Done(), true)
}

// P22.4: Busy is each client's own; Done asks all of them, for what is under way and for what is left.
func TestBusyAndDone(t *testing.T) {
	k := newBench(t, config(9, 1, 3, 2), []api.Op{makes(1)}, nil, []api.Op{makes(0)})
	same(t, "Done", k.w.Done(), false)
	k.ends(0)
	same(t, "Done", k.w.Done(), false)
	for range 12 {
		k.pick(2)
		same(t, "Done", k.w.Done(), false)
		for who := range 5 {
			same(t, "Busy", k.w.Busy(who), who == 2)
		}
	}
	k.pick(2)
	same(t, "Busy", k.w.Busy(2), false)
	same(t, "Done", k.w.Done(), true)
	k.pick(3)
	same(t, "Done", k.w.Done(), true)
}

// P22.4: Holds is by the client that holds: of its own handles alone, and of those of no walk.
func TestHolds(t *testing.T) {
	k := newBench(t, config(9, 1, 2, 2), []api.Op{makes(1), opens(own(0)), release(own(0))}, []api.Op{makes(0)})
	k.answers(0, gives(handle(0, 0, 1)), gives(handle(0, 255, 1)))
	k.answers(1, gives(handle(1, 0, 1)))
	for who := -1; who < 4; who++ {
		for other := range 2 {
			want := none
			if who == other {
				want = who
			}
			same(t, "Holds", k.w.Holds(who, handle(other, 0, 1)), want)
			same(t, "Holds of a walk", k.w.Holds(who, handle(other, 255, 1)), none)
			same(t, "Holds of another tag", k.w.Holds(who, handle(other, 0, 2)), none)
		}
	}
	k.answers(0, ok)
	same(t, "Holds", k.w.Holds(0, handle(0, 0, 1)), none)
	same(t, "Holds", k.w.Holds(1, handle(1, 0, 1)), 1)
}

// P22.2: points are by the time of the world, also where others were picked between.
func TestPointsAreByTheTime(t *testing.T) {
	k := newBench(t, config(9, 1, 2, 2), []api.Op{makes(1), load(own(0), 0)}, ops(40))
	k.w.Run([]int{1, 1, 1, 1, 1, 1, 1})
	for range 12 {
		k.w.Run([]int{1, 0})
	}
	k.w.Run([]int{1, 1, 0})
	e := k.last()
	e.Call, e.Answer = api.Call{}, api.Answer{}
	same(t, "the New", e, api.Event{Begun: 9, Point: 31, Ended: 34, Behind: true})
	k.picks(0, 5) // pinned, the header, the field
	k.picks(1, 3)
	k.pick(0)
	e = k.last()
	e.Call, e.Answer = api.Call{}, api.Answer{}
	same(t, "the Load", e, api.Event{Op: 1, Begun: 35, Point: 39, Ended: 43, Behind: true})
}

// P22.4: Last and Touches are the memory's, of whoever was picked.
func TestTouches(t *testing.T) {
	c := config(2, 0, 2, 1)
	k := newBench(t, c, []api.Op{makes(0)}, []api.Op{{}})
	same(t, "Last", k.w.Last(), api.Touch{})
	k.pick(1)
	same(t, "Last", k.w.Last(), api.Touch{})
	same(t, "Touches", k.w.Touches(), 0)
	k.picks(0, 2)
	same(t, "Last", k.w.Last(), api.Touch{Kind: api.TStore, At: plan.Pin(c, 0), Now: 1})
	k.pick(2)
	same(t, "Last", k.w.Last(), api.Touch{Kind: api.TLoad, At: plan.Header(c, 0)})
	same(t, "Touches", k.w.Touches(), 3)
	m := mem.Of(k.w.Words())
	same(t, "the pin", m.Load(plan.Pin(c, 0)), 1)
}

// Rule 6: the same picks come to the same.
func TestSamePicks(t *testing.T) {
	run := func() *bench {
		seed := uint64(9)
		c := config(20, 2, 3, 4)
		k := newBench(t, c, programs(&seed, c, 30)...)
		for range 3000 {
			k.w.Pick(draw(&seed, 5))
		}
		k.rests()
		return k
	}
	run().all().isAll(run())
}
