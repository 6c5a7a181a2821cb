package field_test

import (
	"cmp"
	"slices"
	"testing"

	"withy/api"
	"withy/field"
	"withy/mem"
	"withy/plan"
	"withy/shade"
)

// The kinds of tasks.
const (
	laying = iota
	reading
	turning
	seeing
	stamping
)

// task is something that is done to a field of the node 0: a record of a value is laid, if the field has what is expected; the field is read, or seen by the worker's last view; or a record is stamped, or the clock turned.
type task struct {
	kind, i          int
	rec, val, expect int
}

// event is a task that is over, with what was told of it.
type event struct {
	task
	point, begun, ended int
	laid                bool
	view                uint64
}

// worker does tasks, one after the other.
type worker struct {
	tasks   []task
	task    task
	machine mem.Machine
	begun   int
	view    uint64
}

// scene is a memory with workers, and what came of them so far.
type scene struct {
	c       api.Config
	m       *mem.Mem
	b       *field.Book
	e       uint64
	fields  int
	workers []worker
	events  []event
	turns   []int // the times at which the clock was turned
	hung    []task
}

// newScene is a memory in which all slots are records that weren't marked in the epoch, with a worker for each list of tasks.
func newScene(t *testing.T, slots int, e uint64, lists [][]task) *scene {
	c := config(slots)
	words := plan.Memory(c).Words()
	for slot := range c.Slots {
		words[plan.Header(c, slot)] = header(t, api.Header{Kind: api.Record, Mark: 1 - black(e)})
	}
	f := &scene{c: c, m: mem.Of(words), b: field.NewBook(), e: e, fields: 3}
	for _, l := range lists {
		f.workers = append(f.workers, worker{tasks: l})
	}
	return f
}

// hang lays a record, alone, up to the swap, and leaves it there without a stamp: whoever comes next has to stamp it.
func (f *scene) hang(t *testing.T, k task) *scene {
	t.Helper()
	f.m.Store(plan.Body(f.c, k.rec, 0), uint64(k.val+1))
	at := plan.Body(f.c, 0, k.i)
	l := field.NewLay(f.c, 0, k.i, k.rec, k.expect, f.e, f.b)
	for f.m.Last().Kind != api.TSwap || f.m.Last().At != at {
		f.b.Now++
		if l.Step(f.m) {
			t.Fatal("a Lay was done without a swap")
		}
	}
	f.hung = append(f.hung, k)
	return f
}

// make is the machine of a task.
func (f *scene) make(k task, view uint64) mem.Machine {
	switch k.kind {
	case laying:
		f.m.Store(plan.Body(f.c, k.rec, 0), uint64(k.val+1))
		return field.NewLay(f.c, 0, k.i, k.rec, k.expect, f.e, f.b)
	case reading:
		return field.NewRead(f.c, 0, k.i, f.b)
	case turning:
		return field.NewTurn(f.c, f.b)
	case seeing:
		return field.NewSee(f.c, 0, k.i, view, f.b)
	}
	return field.NewStamp(f.c, k.rec, f.b)
}

// busy are the workers that have work left.
func (f *scene) busy() []int {
	var l []int
	for i, w := range f.workers {
		if w.machine != nil || len(w.tasks) > 0 {
			l = append(l, i)
		}
	}
	return l
}

// step has a busy worker take a step, at the next time.
func (f *scene) step(t *testing.T, i int) {
	w := &f.workers[i]
	f.b.Now++
	if w.machine == nil {
		w.task, w.tasks, w.begun = w.tasks[0], w.tasks[1:], f.b.Now
		w.machine = f.make(w.task, w.view)
	}
	touches := f.m.Touches()
	done := w.machine.Step(f.m)
	if f.m.Touches() != touches+1 {
		t.Helper()
		t.Fatalf("%d touches in one step", f.m.Touches()-touches)
	}
	if last := f.m.Last(); last.At == plan.Clock && last.Was != last.Now {
		f.turns = append(f.turns, f.b.Now)
	}
	if done {
		f.note(w)
		w.machine = nil
	}
}

// note writes down what a machine whose work is done tells.
func (f *scene) note(w *worker) {
	e := event{task: w.task, begun: w.begun, ended: f.b.Now, view: w.view}
	switch s := w.machine.(type) {
	case *field.Lay:
		e.laid, e.point = s.Laid, s.Point
	case *field.Read:
		e.rec, e.val, e.point = s.Rec, s.Val, s.Point
	case *field.Turn:
		e.view, e.point = s.View, s.Point
		w.view = s.View
	case *field.See:
		e.val = s.Val
		e.point = f.b.Now
	case *field.Stamp:
		e.point = f.b.Now
	}
	f.events = append(f.events, e)
}

// ordered are all events in the order of their points, of like ones those that were laid first; with what hung at first, by its record's point.
func (f *scene) ordered() []event {
	l := slices.Clone(f.events)
	for _, k := range f.hung {
		if point := f.b.Born(k.rec); point != none {
			l = append(l, event{task: k, point: point, ended: f.b.Now, laid: true})
		}
	}
	slices.SortStableFunc(l, func(a, b event) int {
		if a.point != b.point || a.laid == b.laid {
			return cmp.Compare(a.point, b.point)
		}
		if a.laid {
			return -1
		}
		return 1
	})
	return l
}

// check: P10.5: what was told, held against the order of the points.
func (f *scene) check(t *testing.T) {
	last := make([][]event, f.fields) // what was laid on each field so far
	now := func(i int) (rec, val int) {
		if n := len(last[i]); n > 0 {
			return last[i][n-1].rec, last[i][n-1].val
		}
		return none, none
	}
	for _, e := range f.ordered() {
		if e.point < e.begun || e.point > e.ended {
			t.Helper()
			t.Fatalf("%+v: the point isn't between its first step and its last", e)
		}
		rec, val := now(e.i)
		switch {
		case e.laid:
			if e.expect >= -1 && e.expect != val {
				t.Helper()
				t.Fatalf("%+v: laid on a field that has %d", e, val)
			}
			if n := len(last[e.i]); e.point != f.b.Born(e.rec) || n > 0 && last[e.i][n-1].point == e.point {
				t.Helper()
				t.Fatalf("%+v: not the record's point, or another one's, too", e)
			}
			last[e.i] = append(last[e.i], e)
		case e.kind == laying:
			if e.expect < -1 || e.expect == val {
				t.Helper()
				t.Fatalf("%+v: not laid on a field that has %d", e, val)
			}
		case e.kind == reading:
			if e.rec != rec || e.val != val {
				t.Helper()
				t.Fatalf("%+v: read of a field that has %d, of the record %d", e, val, rec)
			}
		}
	}
	f.checkViews(t, last)
	f.checkWords(t, last)
}

// checkViews: a view sees what was laid ahead of its point, and nothing behind it.
func (f *scene) checkViews(t *testing.T, last [][]event) {
	for _, e := range f.events {
		point := f.b.Turned(e.view)
		if e.kind == turning && (e.point != point || !slices.Contains(f.turns, point)) {
			t.Helper()
			t.Fatalf("%+v: its view's point is %d", e, point)
		}
		if e.kind != seeing {
			continue
		}
		want := none
		for _, l := range last[e.i] {
			if l.point < point {
				want = l.val
			}
		}
		if e.val != want {
			t.Helper()
			t.Fatalf("%+v: in its view, of the point %d, the field has %d", e, point, want)
		}
	}
}

// checkWords: each field leads through all that was laid, the last one first; each record's stamp is what the clock was at its point; with a barrier all are marked but those that are the newest, else none.
func (f *scene) checkWords(t *testing.T, last [][]event) {
	words := f.m.Words()
	fenced := f.e%4 == 1 || f.e%4 == 2
	if words[plan.Grays] != uint64(shade.Grays(f.c, words)) {
		t.Helper()
		t.Fatalf("the grays are %d, and %d slots are gray", words[plan.Grays], shade.Grays(f.c, words))
	}
	for i, l := range last {
		rec := words[plan.Body(f.c, 0, i)]
		for n := range l {
			e := l[len(l)-1-n]
			stamp := uint64(1)
			for _, point := range f.turns {
				if point < e.point {
					stamp++
				}
			}
			if rec != uint64(e.rec+1) || words[plan.Body(f.c, e.rec, 1)] != stamp {
				t.Helper()
				t.Fatalf("%+v: the record is %d, its stamp %d, want %d", e, rec-1, words[plan.Body(f.c, e.rec, 1)], stamp)
			}
			white := header(t, api.Header{Kind: api.Record, Mark: 1 - black(f.e)})
			found := words[plan.Header(f.c, e.rec)] == header(t, api.Header{Kind: api.Record, Mark: black(f.e), Gray: true})
			if older := n > 0 && fenced; older && !found || !fenced && words[plan.Header(f.c, e.rec)] != white {
				t.Helper()
				t.Fatalf("%+v: the record was shaded, or wasn't, where it should be otherwise", e)
			}
			rec = words[plan.Body(f.c, e.rec, 2)]
		}
		if rec != 0 {
			t.Helper()
			t.Fatalf("the field %d leads to %d behind all that was laid", i, rec-1)
		}
	}
}

// all is more switches than any order has.
const all = 1 << 20

// ways are the workers that may take the next step, where one that isn't done is left for another one so many times more at most.
func (f *scene) ways(last, switches int) []int {
	l := f.busy()
	if switches == 0 && slices.Contains(l, last) {
		return []int{last}
	}
	return l
}

// allOrders goes through all orders in which the workers of a scene can take their steps, to the end, with so many switches from one that isn't done, and is how many there were. Each of them begins anew, and takes another way at the last step at which there is one left.
func allOrders(t *testing.T, switches int, begin func() *scene) int {
	t.Helper()
	var path []int
	for runs := 1; ; runs++ {
		f := begin()
		var widths []int
		last, left := none, switches
		for l := f.ways(last, left); len(l) > 0; l = f.ways(last, left) {
			if len(widths) == len(path) {
				path = append(path, 0)
			}
			next := l[path[len(widths)]]
			if next != last && slices.Contains(l, last) {
				left--
			}
			f.step(t, next)
			widths, last = append(widths, len(l)), next
		}
		f.check(t)
		for len(path) > 0 && path[len(path)-1]+1 == widths[len(path)-1] {
			path = path[:len(path)-1]
		}
		if len(path) == 0 {
			return runs
		}
		path[len(path)-1]++
	}
}

// lay, read, turn, see and stamp are tasks, most of them of the field 0.
func lay(rec, val, expect int) task { return task{laying, 0, rec, val, expect} }
func read() task                    { return task{kind: reading} }
func turn() task                    { return task{kind: turning} }
func see() task                     { return task{kind: seeing} }
func stamp(rec int) task            { return task{kind: stamping, rec: rec} }

// P10.5: a few workers, in all orders of their steps; where these are too many, in all with a few switches.
func TestAllOrders(t *testing.T) {
	for _, k := range []struct {
		name     string
		hung     bool // is there a record without a stamp at first?
		e        uint64
		switches int
		lists    [][]task
		least    int
	}{
		{"two lay, in a rest", false, 0, all, [][]task{{lay(1, 5, whatever)}, {lay(2, 6, whatever)}}, 5000},
		{"two lay, in a mark", false, 2, all, [][]task{{lay(1, 5, whatever)}, {lay(2, 6, whatever)}}, 5000},
		{"two lay, in a fence, on one without a stamp", true, 5, 5, [][]task{{lay(1, 5, whatever)}, {lay(2, 6, whatever)}}, 5000},
		{"two lay, in a mark, on one without a stamp", true, 6, 4, [][]task{{lay(1, 5, 4)}, {lay(2, 6, whatever)}}, 5000},
		{"three lay, in a mark", false, 2, 3, [][]task{{lay(1, 5, whatever)}, {lay(2, 6, none)}, {lay(4, none, 5)}}, 5000},
		{"two lay what the other one expects", false, 0, all, [][]task{{lay(1, 5, none)}, {lay(2, 6, 5)}}, 100},
		{"two lay on none", false, 3, all, [][]task{{lay(1, 5, none)}, {lay(2, 6, none)}}, 1000},
		{"one lays, one reads", false, 2, all, [][]task{{lay(1, 5, whatever)}, {read(), read()}}, 300},
		{"one lays, one reads, on one without a stamp", true, 0, 6, [][]task{{lay(1, 5, 4)}, {read(), read()}}, 5000},
		{"one lays, one turns and sees", false, 0, all, [][]task{{lay(1, 5, whatever)}, {turn(), see()}}, 500},
		{"one lays twice, one turns and sees", false, 0, 6, [][]task{{lay(1, 5, whatever), lay(2, 6, whatever)}, {turn(), see(), see()}}, 5000},
		{"one lays, one turns and sees, on one without a stamp", true, 1, 6, [][]task{{lay(1, 5, whatever)}, {turn(), see()}}, 5000},
		{"two turn", false, 0, all, [][]task{{turn(), turn()}, {turn(), turn()}}, 70},
		{"two turn and see", true, 0, all, [][]task{{turn(), see()}, {turn(), see()}}, 1000},
		{"two stamp, one turns", true, 0, all, [][]task{{stamp(3)}, {stamp(3)}, {turn()}}, 300},
		{"two read, one turns", true, 0, all, [][]task{{read()}, {read()}, {turn()}}, 5000},
		{"one reads, one sees, one stamps", true, 0, 5, [][]task{{read()}, {turn(), see()}, {stamp(3)}}, 5000},
		{"one lays, one reads, one turns", false, 0, all, [][]task{{lay(1, 5, whatever)}, {read()}, {turn()}}, 1000},
		{"one lays none, one on none", true, 0, all, [][]task{{lay(1, none, 4)}, {lay(2, 5, none)}}, 2000},
	} {
		runs := allOrders(t, k.switches, func() *scene {
			f := newScene(t, 7, k.e, k.lists)
			if k.hung {
				f.hang(t, lay(3, 4, whatever))
			}
			return f
		})
		if runs < k.least {
			t.Errorf("%s: %d orders, want %d or more", k.name, runs, k.least)
		}
	}
}

// draw is the next of a row of numbers that looks like no order at all.
func draw(seed *uint64) int {
	*seed = *seed*6364136223846793005 + 1442695040888963407
	return int(*seed >> 33)
}

// manyTasks are lists of tasks, another one for each worker and seed, on so many fields. Each record is laid once at most, and the values are few, so that what is expected is often there.
func manyTasks(workers, length, fields, slots int, seed *uint64) [][]task {
	l := make([][]task, workers)
	rec := 1
	for range length {
		for w := range l {
			k := task{kind: draw(seed) % 4, i: draw(seed) % fields}
			if k.kind == laying && rec == slots {
				k.kind = reading
			}
			if k.kind == laying {
				k.rec, k.val, k.expect = rec, draw(seed)%4-1, draw(seed)%6-3
				rec++
			}
			l[w] = append(l[w], k)
		}
	}
	return l
}

// inSomeOrder has the workers take steps till none is busy. Often one takes several in a row, so that some get far ahead while another one is between its load and its swap.
func (f *scene) inSomeOrder(t *testing.T, seed *uint64) {
	t.Helper()
	last := 0
	for range 100000 {
		l := f.busy()
		if len(l) == 0 {
			return
		}
		if !slices.Contains(l, last) || draw(seed)%3 == 0 {
			last = l[draw(seed)%len(l)]
		}
		f.step(t, last)
	}
	t.Fatal("the work isn't done")
}

// P10.5: many that stamp, read, see, turn and lay, in many orders of their steps, in each of the phases.
func TestManyOrders(t *testing.T) {
	told := map[int]int{}
	for seed := range uint64(3000) {
		workers, e := 2+int(seed%7), seed/7%8
		fields := 1 + int(seed/56%3)
		f := newScene(t, 64, e, manyTasks(workers, 14, fields, 64, &seed))
		f.inSomeOrder(t, &seed)
		f.check(t)
		for _, k := range f.events {
			told[k.kind]++
			if k.laid {
				told[none]++
			}
		}
	}
	for _, n := range []int{none, laying, reading, turning, seeing} {
		if told[n] < 1000 {
			t.Errorf("too few of each kind: %v", told)
		}
	}
	if told[laying] < told[none]+1000 {
		t.Errorf("too few that weren't laid: %v", told)
	}
}

// P10.5: many in turn, one step each.
func TestAllInTurn(t *testing.T) {
	for e := range uint64(4) {
		lists := [][]task{}
		for i := range 20 {
			lists = append(lists, []task{lay(3*i+1, 1, whatever), read(), turn(), see(), lay(3*i+2, 2, 1), see(), read(), lay(3*i+3, 3, 2), see()})
		}
		f := newScene(t, 62, e, lists)
		for range 10000 {
			for _, i := range f.busy() {
				f.step(t, i)
			}
		}
		if len(f.events) != 180 {
			t.Fatalf("%d tasks are done, want 180", len(f.events))
		}
		f.check(t)
	}
}

// P10.5: a view stays what it was, however often the field is written then.
func TestViewsStay(t *testing.T) {
	k := newBench(t, config(40))
	var views []*field.Turn
	for rec := 1; rec < 40; rec++ {
		u := field.NewTurn(k.c, k.b)
		k.ends(u)
		views = append(views, u)
		k.record(rec, rec-1, 0, none)
		l := field.NewLay(k.c, 0, 1, rec, rec-2, 2, k.b)
		k.ends(l)
		same(t, "Laid", l.Laid, true)
		for i, u := range views {
			s := field.NewSee(k.c, 0, 1, u.View, k.b)
			k.ends(s)
			same(t, "Val", s.Val, i-1)
		}
	}
}

// Rule 6: the same steps in the same order come to the same words, and the same points.
func TestSameStepsSameWords(t *testing.T) {
	run := func() ([]uint64, []event) {
		seed := uint64(11)
		f := newScene(t, 30, 1, manyTasks(4, 9, 2, 30, &seed))
		f.inSomeOrder(t, &seed)
		return f.m.Words(), f.events
	}
	words, events := run()
	if again, told := run(); !slices.Equal(words, again) || !slices.Equal(events, told) {
		t.Error("the same steps came to other words, or points")
	}
}
