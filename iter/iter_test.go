package iter_test

import (
	"math"
	"testing"

	"withy/api"
	"withy/field"
	"withy/iter"
	"withy/plan"
)

// P20.3: the chapter's example.
func TestExample(t *testing.T) {
	k := newBench(t, config(5, 2))
	k.node(0, none, none)
	k.node(3)
	k.links(0, 0, 1, 3)
	k.links(0, 1, 2, 0)
	k.comes(k.walk(0, k.turns()), 0, 3)
}

// P20.1: a walk that is new: its start alone is to come, the first slot or the last one, whatever they are.
func TestNewWalk(t *testing.T) {
	for _, c := range configs() {
		for _, start := range []int{0, c.Slots / 2, c.Slots - 1} {
			for _, view := range []uint64{0, 1, 1 << 32, math.MaxUint64} {
				k := newBench(t, c)
				w := k.walk(start, view)
				k.isWalk(w, 1, start)
				k.goes(w, none)
				k.isWalk(w, 1, start)
				k.comes(w, start)
			}
		}
	}
}

// P20.2: a node, opened up touch by touch: a field with a record that is seen, one without, and one whose newest record came behind the view.
func TestOpened(t *testing.T) {
	k := newBench(t, config(9, 3))
	k.node(8, 4, none, 5)
	k.record(4, 1, 3, none)
	k.record(5, 2, 7, 6)
	k.record(6, 3, 5, 0)
	w := k.walk(8, 5)
	k.loads(w, k.head(8))
	k.loads(w, k.body(8, 0), k.body(4, stamp), k.body(4, stamp))
	k.isWalk(w, 1, 8)
	k.loads(w, k.body(4, value))
	k.isWalk(w, 2, 8)
	k.loads(w, k.body(8, 1))
	k.loads(w, k.body(8, 2), k.body(5, stamp), k.body(5, stamp), k.body(5, older), k.body(6, stamp))
	k.isWalk(w, 2, 8)
	k.lastLoads(w, k.body(6, value))
	k.isWalk(w, 3, 8)
	k.goes(w, 8)
	k.isWalk(w, 2, 1)
	k.goes(w, none)
	k.isWalk(w, 2, 1)
	k.lastLoads(w, k.head(1))
	k.goes(w, 1)
	k.isWalk(w, 1, 3)
	k.lastLoads(w, k.head(3))
	k.goes(w, 3)
	k.isWalk(w, 0, none)
	k.goes(w, none)
	k.over(w)
}

// P20.2: a record without a stamp is stamped by what sees it; the book notes it.
func TestStamps(t *testing.T) {
	k := newBench(t, config(4, 1))
	k.node(0, 2)
	k.record(2, 3, 0, none)
	k.m.Store(plan.Clock, 6)
	w := k.walk(0, 6)
	k.loads(w, k.head(0), k.body(0, 0), k.body(2, stamp), plan.Clock)
	k.step(w, false, swap(k.body(2, stamp), 0, 6))
	k.lastLoads(w, k.body(2, stamp), k.body(2, value))
	k.isWalk(w, 2, 0)
	same(t, "Born", k.b.Born(2), 4)
}

// P20.2: Go ahead of the opening's end is nothing, wherever the walk is; behind it, it is done once.
func TestGoAhead(t *testing.T) {
	k := newBench(t, config(6, 2))
	k.node(0, 2, 3)
	k.record(2, 1, 1, none)
	k.record(3, 4, 1, none)
	w := k.walk(0, 1)
	for steps := 1; ; steps++ {
		left := w.Left()
		for range 3 {
			k.goes(w, none)
			k.isWalk(w, left, 0)
		}
		k.b.Now++
		if w.Step(k.m) {
			same(t, "steps", steps, 9)
			break
		}
	}
	k.isWalk(w, 3, 0)
	k.goes(w, 0)
	k.goes(w, none)
	k.comes(w, 1, 4)
}

// P20.2: nodes of all arities are opened up field by field, by so many steps; what lies behind their fields isn't looked at.
func TestArities(t *testing.T) {
	for _, c := range []api.Config{config(12, 0), config(12, 2), config(12, 3), config(12, 8)} {
		for arity := range bodySize(c) + 1 {
			k := newBench(t, c)
			var want []int
			for i := range bodySize(c) {
				k.m.Store(k.body(0, i), 12)
			}
			k.record(11, 10, 1, none)
			k.heads(0, api.Header{Kind: api.Node, Arity: arity})
			if arity > 0 {
				want = append(want, 10)
			}
			w := k.walk(0, 1)
			same(t, "steps", k.ends(w), 1+4*arity)
			k.goes(w, 0)
			k.comes(w, want...)
		}
	}
}

// P20.2: of a header that says more fields than a body has words these alone are seen; one that isn't right has no fields.
func TestOddHeaders(t *testing.T) {
	for _, c := range []api.Config{config(4, 0), config(4, 4), config(4, 8)} {
		for _, arity := range []int{bodySize(c), bodySize(c) + 1, 15} {
			k := newBench(t, c)
			k.heads(0, api.Header{Kind: api.Node, Arity: arity})
			w := k.walk(0, 1)
			same(t, "steps", k.ends(w), 1+bodySize(c))
			k.goes(w, 0)
			k.comes(w)
		}
		for _, word := range []uint64{0, 5 + 2<<5, 1<<9 + api.Node + 2<<5, math.MaxUint64} {
			k := newBench(t, c)
			k.m.Store(k.head(0), word)
			w := k.walk(0, 1)
			same(t, "steps", k.ends(w), 1)
			k.goes(w, 0)
			k.comes(w)
		}
	}
}

// P20.3: each node comes once: nodes that name themselves, one another, and the same ones by several fields; rings and long rows; in the order in which they were met, by rising numbers of the fields.
func TestOrder(t *testing.T) {
	for _, x := range []struct {
		name  string
		nodes [][]int // what each one's fields name
		start int
		want  []int
	}{
		{"alone", [][]int{{}}, 0, []int{0}},
		{"naming nothing", [][]int{{none, none, none}}, 0, []int{0}},
		{"naming itself", [][]int{{0}}, 0, []int{0}},
		{"naming itself by all fields", [][]int{{0, 0, 0, 0}}, 0, []int{0}},
		{"naming one another", [][]int{{1}, {0}}, 0, []int{0, 1}},
		{"naming one another, from the other one", [][]int{{1}, {0}}, 1, []int{1, 0}},
		{"one by several fields", [][]int{{1, none, 1, 1}, {}}, 0, []int{0, 1}},
		{"by rising fields, not slots", [][]int{{3, 1, 2}, {}, {}, {}}, 0, []int{0, 3, 1, 2}},
		{"by rows", [][]int{{2, 1}, {5, 3}, {4, 3}, {}, {}, {0}}, 0, []int{0, 2, 1, 4, 3, 5}},
		{"a ring", [][]int{{4}, {0}, {1}, {2}, {3}}, 2, []int{2, 1, 0, 4, 3}},
		{"two rings", [][]int{{1, 2}, {0}, {3}, {2, 0}}, 3, []int{3, 2, 0, 1}},
		{"what names, but isn't named", [][]int{{1}, {}, {0}, {2}}, 0, []int{0, 1}},
		{"met in the row, named again ahead of it", [][]int{{1, 2}, {2, 3}, {1, 0}, {}}, 0, []int{0, 1, 2, 3}},
	} {
		k := newBench(t, config(32, 4))
		rec := len(x.nodes)
		for slot, fields := range x.nodes {
			k.heads(slot, api.Header{Kind: api.Node, Arity: len(fields)})
		}
		for slot, fields := range x.nodes {
			for i, to := range fields {
				k.links(slot, i, rec, to)
				rec++
			}
		}
		t.Log(x.name)
		k.comes(k.walk(x.start, k.turns()), x.want...)
	}
}

// P20.3: all slots but one, in a row that leads from the last one to the first.
func TestLongRow(t *testing.T) {
	c := greatest()
	k := newBench(t, c)
	var want []int
	for slot := 62; slot >= 0; slot -= 2 {
		k.heads(slot, api.Header{Kind: api.Node, Arity: 1})
		want = append(want, slot)
		if slot > 0 {
			k.links(slot, 0, slot+1, slot-2)
		}
	}
	k.comes(k.walk(62, k.turns()), want...)
}

// P20.2: words that name no slot count as none, in fields, values and older ones.
func TestNoSlots(t *testing.T) {
	c := config(5, 1)
	for _, word := range []uint64{0, 6, 7, 64, 65, 1 << 16, 1<<32 + 1, 1 << 63, math.MaxUint64} {
		for place := range 3 {
			k := newBench(t, c)
			k.node(0, 1)
			k.record(1, 4, 1, none)
			at := []int{k.body(0, 0), k.body(1, value), k.body(1, older)}[place]
			k.m.Store(at, word)
			view := uint64(1)
			if place == 2 {
				view = 0
			}
			k.comes(k.walk(0, view), 0)
		}
	}
}

// P20.3: what is laid on fields meanwhile isn't seen, ahead of the field's being seen or behind it; what was there at the opening is.
func TestLaidMeanwhile(t *testing.T) {
	for ahead := range 8 {
		k := newBench(t, config(16, 2))
		for slot := range 4 {
			k.node(slot, none, none)
		}
		k.links(0, 0, 4, 1)
		k.links(1, 1, 5, 2)
		w := k.walk(0, k.turns())
		var l []int
		for n := 0; w.Left() > 0; n++ {
			if n == ahead {
				k.links(0, 0, 6, 3)
				k.links(0, 1, 7, 2)
				k.links(1, 1, 8, none)
				k.links(1, 0, 9, 3)
				k.links(2, 0, 10, 3)
				k.links(2, 1, 11, 0)
			}
			k.b.Now++
			if w.Step(k.m) {
				l = append(l, w.Go())
			}
		}
		if len(l) != 3 || l[0] != 0 || l[1] != 1 || l[2] != 2 {
			t.Errorf("written behind %d steps: %v", ahead, l)
		}
	}
}

// P20.3: walks by views ahead of one another, over the same fields: each comes to what was there then.
func TestViews(t *testing.T) {
	k := newBench(t, config(40, 1))
	for slot := range 10 {
		k.node(slot, none)
	}
	var walks []*iter.Walk
	for n := range 10 {
		walks = append(walks, k.walk(0, k.turns()))
		k.links(0, 0, 10+n, n)
	}
	for n, w := range walks {
		switch n {
		case 0, 1:
			k.comes(w, 0)
		default:
			k.comes(w, 0, n-1)
		}
	}
}

// P20.2: to make a walk is no touch, and it goes by what the memory is when its steps come; two of them have nothing in common.
func TestMadeAhead(t *testing.T) {
	c := config(4, 1)
	b := field.NewBook()
	first, second := iter.NewWalk(c, 0, 1, b), iter.NewWalk(c, 0, 1, b)
	for _, w := range []*iter.Walk{first, second} {
		k := &bench{t: t, c: c, m: plan.Memory(c), b: b}
		k.node(0, 2)
		k.record(2, 3, 1, none)
		before := k.m.Touches()
		k.comes(w, 0, 3)
		same(t, "touches", k.m.Touches()-before, 6)
	}
}
