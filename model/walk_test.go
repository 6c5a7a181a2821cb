package model_test

import (
	"testing"

	"withy/api"
)

// graph is a bench of one client that holds so many nodes, the node n by the handle 20 + n, whose fields name what the rows say.
func graph(t *testing.T, arity int, rows ...[]int) *bench {
	t.Helper()
	b := newBench(t, config(arity, 2, 16))
	for n, row := range rows {
		b.does(0, makes(len(row)), gives(uint64(20+n)), true)
	}
	for n, row := range rows {
		b.rewrite(n, row)
	}
	return b
}

// rewrite has the fields of a node of a graph name these.
func (b *bench) rewrite(n int, row []int) {
	b.t.Helper()
	for i, to := range row {
		if to == none {
			b.orFull(0, unlink(uint64(20+n), i), ok)
		} else {
			b.orFull(0, link(uint64(20+n), i, uint64(20+to)), ok)
		}
	}
	b.fields(n, row...)
}

// walks has the client's walk come to these nodes, and then to no more; each handle is let go again.
func (b *bench) walks(walk uint64, row ...int) {
	b.t.Helper()
	for _, n := range row {
		h := uint64(len(b.given) + 100)
		b.is(0, next(walk), gives(h))
		b.node(0, h, n)
		b.is(0, release(h), ok)
	}
	for range 3 {
		b.fails(0, next(walk), api.ErrDone)
	}
}

// P17.2: a walk comes to the node, to what its fields name by rising numbers of the fields, to what theirs do, and so on, to each once.
func TestWalks(t *testing.T) {
	for _, x := range []struct {
		rows [][]int
		want []int
	}{
		{[][]int{{}}, []int{0}},
		{[][]int{{none}}, []int{0}},
		{[][]int{{0}}, []int{0}},
		{[][]int{{0, 0}}, []int{0}},
		{[][]int{{1}, {0}}, []int{0, 1}},
		{[][]int{{none, 1}, {none, none}}, []int{0, 1}},
		{[][]int{{none}, {0}}, []int{0}},
		{[][]int{{2, 1}, {}, {}}, []int{0, 2, 1}},
		{[][]int{{1, 2}, {3}, {4}, {}, {}}, []int{0, 1, 2, 3, 4}},
		{[][]int{{2, 1}, {3}, {4}, {}, {}}, []int{0, 2, 1, 4, 3}},
		{[][]int{{1, 2}, {2, 3}, {3, 1}, {0, 3}}, []int{0, 1, 2, 3}},
		{[][]int{{3, none, 1}, {2}, {}, {2, 4}, {1, 0, 4}}, []int{0, 3, 1, 2, 4}},
		{[][]int{{1}, {2}, {3}, {4}, {5}, {1, 6}, {}}, []int{0, 1, 2, 3, 4, 5, 6}},
		{[][]int{{8, 7, 6, 5, 4, 3, 2, 1}, {}, {}, {}, {}, {}, {}, {}, {}}, []int{0, 8, 7, 6, 5, 4, 3, 2, 1}},
	} {
		b := graph(t, 8, x.rows...)
		b.is(0, opens(20), gives(9))
		b.walks(9, x.want...)
	}
}

// P17.2: a walk begins at whatever node is held; what it can't reach it doesn't come to.
func TestWalksFromEachNode(t *testing.T) {
	b := graph(t, 2, []int{1, none}, []int{2, 1}, []int{none, none}, []int{0, 2})
	for n, want := range [][]int{{0, 1, 2}, {1, 2}, {2}, {3, 0, 2, 1}} {
		walk := uint64(50 + n)
		b.is(0, opens(uint64(20+n)), gives(walk))
		b.walks(walk, want...)
		b.is(0, closes(walk), ok)
	}
}

// P17.2, P17.4: what is linked, unlinked, swapped, made and let go behind the opening changes nothing of a walk, wherever it is.
func TestWalksAreSnapshots(t *testing.T) {
	for ahead := range 5 {
		b := graph(t, 2, []int{1, 2}, []int{3, none}, []int{0, 3}, []int{none, none}, []int{0, 1})
		want := []int{0, 1, 2, 3}
		b.is(0, opens(20), gives(9))
		for i := range ahead {
			h := uint64(60 + i)
			b.is(0, next(9), gives(h))
			b.node(0, h, want[i])
			b.is(0, release(h), ok)
		}
		b.orFull(0, unlink(20, 0), ok)
		b.orFull(0, link(20, 1, 24), ok)
		b.orFull(0, swap(21, 0, 0, 23), yes)
		b.orFull(0, swap(23, 0, 24, 0), yes)
		b.orFull(0, makes(1), gives(70))
		b.orFull(0, link(22, 0, 70), ok)
		for n := range 5 {
			b.is(0, release(uint64(20+n)), ok)
		}
		b.walks(9, want[ahead:]...)
		b.is(0, closes(9), ok)
		b.is(0, opens(70), gives(71))
		b.walks(71, 5)
	}
}

// P17.2: a walk sees the fields as they are when it is opened, not as they were when the nodes were made or the last one was opened.
func TestLaterWalks(t *testing.T) {
	b := graph(t, 2, []int{1, none}, []int{none, none}, []int{none, none})
	b.is(0, opens(20), gives(9))
	b.walks(9, 0, 1)
	b.orFull(0, link(20, 0, 22), ok)
	b.orFull(0, link(22, 1, 21), ok)
	b.fails(0, next(9), api.ErrDone)
	b.is(0, closes(9), ok)
	b.is(0, opens(20), gives(10))
	b.walks(10, 0, 2, 1)
	b.is(0, closes(10), ok)
	b.orFull(0, unlink(20, 0), ok)
	b.is(0, opens(20), gives(11))
	b.walks(11, 0)
}

// P17.2: a client has one walk at a time, also when it is at its end; Close ends it wherever it is, and then it has another one, by another handle.
func TestOneWalk(t *testing.T) {
	b := graph(t, 1, []int{1}, []int{none})
	b.is(0, opens(20), gives(9))
	b.fails(0, opens(20), api.ErrOpen)
	b.fails(0, opens(21), api.ErrOpen)
	b.fails(0, opens(9), api.ErrHandle)
	b.is(0, next(9), gives(30))
	b.fails(0, opens(20), api.ErrOpen)
	b.is(0, next(9), gives(31))
	b.fails(0, next(9), api.ErrDone)
	b.fails(0, opens(20), api.ErrOpen)
	b.is(0, closes(9), ok)
	b.fails(0, closes(9), api.ErrDone)
	b.fails(0, next(9), api.ErrDone)
	b.is(0, opens(21), gives(10))
	b.fails(0, next(9), api.ErrDone)
	b.fails(0, closes(9), api.ErrDone)
	b.walks(10, 1)
	b.is(0, closes(10), ok)
	b.is(0, opens(20), gives(11))
	b.is(0, closes(11), ok)
	b.fails(0, next(11), api.ErrDone)
}

// P17.2: Next and Close go by the client's walk's handle alone: not by 0, by what it holds, by an old walk's, or by another client's.
func TestWalksHandles(t *testing.T) {
	b := graph(t, 1, []int{1}, []int{none})
	b.orFull(1, makes(0), gives(40))
	b.is(1, opens(40), gives(41))
	wrong := []uint64{0, 8, 20, 21, 40, 41, 9 + 1<<32, 1<<64 - 1}
	for _, h := range wrong {
		b.fails(0, next(h), api.ErrDone)
		b.fails(0, closes(h), api.ErrDone)
	}
	b.is(0, opens(20), gives(9))
	for _, h := range wrong {
		b.fails(0, next(h), api.ErrDone)
		b.fails(0, closes(h), api.ErrDone)
	}
	for _, h := range []uint64{0, 9, 20, 40} {
		b.fails(1, next(h), api.ErrDone)
		b.fails(1, closes(h), api.ErrDone)
	}
	b.is(1, next(41), gives(42))
	b.node(1, 42, 2)
	b.walks(9, 0, 1)
	b.is(1, closes(41), ok)
	b.is(0, closes(9), ok)
	b.fails(1, opens(9), api.ErrHandle)
}

// P17.2: a walk's handle is none that its client holds, and takes no room.
func TestWalksAreNotHeld(t *testing.T) {
	b := newBench(t, config(1, 1, 1))
	b.orFull(0, makes(1), gives(5))
	b.is(0, opens(5), gives(9))
	b.held(0, 1)
	b.node(0, 9, none)
	b.fails(0, release(9), api.ErrHandle)
	b.is(0, release(5), ok)
	b.held(0, 0)
	b.is(0, next(9), gives(6))
	b.held(0, 1)
	b.node(0, 6, 0)
}

// P17.2: two clients walk through the same nodes, each its own way.
func TestWalksApart(t *testing.T) {
	b := graph(t, 1, []int{1}, []int{2}, []int{none})
	b.orFull(1, makes(1), gives(40))
	b.is(0, opens(20), gives(9))
	b.is(1, opens(40), gives(41))
	b.is(0, next(9), gives(50))
	b.is(1, next(41), gives(42))
	b.node(1, 42, 3)
	b.fails(1, next(41), api.ErrDone)
	b.is(1, closes(41), ok)
	b.walks(9, 1, 2)
}

// P17.2: a walk along a ring of many nodes, and more than can be held at once, comes to each, and ends.
func TestLongWalk(t *testing.T) {
	const n = 5000
	b := newBench(t, config(1, 1, 3))
	does := func(call api.Call, a api.Answer) {
		t.Helper()
		if !b.m.Does(0, call, a) {
			t.Fatalf("Does(0, %+v, %+v): false", call, a)
		}
	}
	first, last := uint64(20), uint64(20)
	does(makes(1), gives(first))
	for i := 1; i < n; i++ {
		h := first + uint64(i)
		does(makes(1), gives(h))
		does(link(last, 0, h), ok)
		if last != first {
			does(release(last), ok)
		}
		last = h
	}
	does(link(last, 0, first), ok)
	does(release(last), ok)
	does(opens(first), gives(9))
	for i := range n {
		h := first + n + uint64(i)
		does(next(9), gives(h))
		b.node(0, h, i)
		b.fields(i, (i+1)%n)
		does(release(h), ok)
	}
	b.fails(0, next(9), api.ErrDone)
}
