package hist_test

import (
	"math"
	"testing"

	"withy/api"
	"withy/hist"
)

// P18.1, P18.2: the document's example.
func TestExample(t *testing.T) {
	l := []api.Event{event(0, 0, 1, 4, 5), event(1, 0, 2, 2, 3)}
	ordered(t, l, 1, 0)
	respects(t, l, []int{1, 0}, true)
	respects(t, l, []int{0, 1}, true)
	if hist.Ahead(l[0], l[1]) || hist.Ahead(l[1], l[0]) {
		t.Error("Ahead: one is ahead of the other one")
	}
	right(t, l, 2, true)
	right(t, l, 1, false)
}

// P18.1: an event is ahead of another one if it ended below where that one began, not if both are at one time; nothing else counts, the lowest and highest times neither.
func TestAhead(t *testing.T) {
	for _, ended := range extremes() {
		for _, begun := range extremes() {
			for _, point := range []int{math.MinInt, -1, 0, 3, math.MaxInt} {
				a := event(0, 7, point, point, ended)
				b := behind(event(1, 2, begun, point, point))
				if got := hist.Ahead(a, b); got != (ended < begun) {
					t.Fatalf("Ahead(%+v, %+v): %v", a, b, got)
				}
				b.Client, b.Op = a.Client, a.Op
				if got := hist.Ahead(a, b); got != (ended < begun) {
					t.Fatalf("Ahead(%+v, %+v): %v", a, b, got)
				}
			}
		}
	}
}

// P18.1: one behind the other, overlapping, one within the other, and by turns.
func TestAheadOfHistories(t *testing.T) {
	for _, x := range []struct {
		a, b  api.Event
		ahead bool
	}{
		{event(0, 0, 1, 2, 3), event(1, 0, 4, 5, 6), true},
		{event(0, 0, 1, 1, 1), event(1, 0, 2, 2, 2), true},
		{event(0, 0, 1, 2, 3), event(1, 0, 3, 4, 5), false},
		{event(0, 0, 1, 2, 4), event(1, 0, 3, 5, 6), false},
		{event(0, 0, 1, 2, 9), event(1, 0, 3, 4, 5), false},
		{event(0, 0, 4, 5, 6), event(1, 0, 1, 2, 3), false},
		{event(0, 0, 2, 2, 2), event(1, 0, 2, 2, 2), false},
		{event(0, 1, 1, 2, 3), event(0, 0, 4, 5, 6), true},
	} {
		if got := hist.Ahead(x.a, x.b); got != x.ahead {
			t.Errorf("Ahead(%+v, %+v): %v", x.a, x.b, got)
		}
	}
}

// P18.1: each event's client is from 0 to below their number: the first and the last one, and one beyond.
func TestRightClients(t *testing.T) {
	for _, clients := range []int{1, 2, 3, 8, 9, 1 << 40, math.MaxInt} {
		good := []api.Event{event(0, 0, 1, 1, 1), event(clients-1, 1, 2, 2, 2)}
		right(t, good, clients, true)
		for _, who := range []int{math.MinInt, -1 << 32, -2, -1, clients, clients + 1, math.MaxInt} {
			if who >= 0 && who < clients {
				continue
			}
			for at := range 3 {
				l := append([]api.Event{}, good[:min(at, 2)]...)
				l = append(l, event(who, 5, 9, 9, 9))
				l = append(l, good[min(at, 2):]...)
				right(t, l, clients, false)
			}
		}
	}
}

// P18.1: of 0 clients, and of fewer, no history is right but that in which nothing was called, which is right of any number.
func TestRightWithoutClients(t *testing.T) {
	for _, clients := range extremes() {
		right(t, nil, clients, true)
		right(t, []api.Event{}, clients, true)
		for _, who := range []int{math.MinInt, -1, 0} {
			right(t, []api.Event{event(who, 0, 1, 1, 1)}, clients, who == 0 && clients > 0)
		}
	}
}

// P18.1: Begun isn't behind Point, nor Point behind Ended; all of them may be alike.
func TestRightTimes(t *testing.T) {
	for _, begun := range extremes() {
		for _, point := range extremes() {
			for _, ended := range extremes() {
				want := begun <= point && point <= ended
				e := event(0, 0, begun, point, ended)
				right(t, []api.Event{e}, 1, want)
				right(t, []api.Event{behind(e)}, 1, want)
				right(t, []api.Event{event(1, 0, 1, 2, 3), e, event(1, 1, 4, 4, 4)}, 2, want)
			}
		}
	}
}

// P18.1: of two events of one client the one with the lower Op ended ahead of where the other one began, whichever stands first; of those of two clients nothing is asked.
func TestRightOps(t *testing.T) {
	for _, times := range rows(4, 1, 4) {
		a := event(0, 0, times[0], times[0], times[1])
		b := event(0, 0, times[2], times[3], times[3])
		for _, ops := range rows(2, -1, 2) {
			a.Op, b.Op = ops[0], ops[1]
			for _, who := range []int{0, 1} {
				b.Client = who
				for _, l := range [][]api.Event{{a, b}, {b, a}} {
					right(t, l, 2, plainRight(l, 2))
				}
			}
		}
	}
}

// P18.1: no two of one client have the same Op, also where one of them is behind the other one; two clients have the same ones.
func TestRightTwoOfOneOp(t *testing.T) {
	for _, op := range extremes() {
		a, b := event(0, op, 1, 1, 1), event(0, op, 5, 5, 5)
		right(t, []api.Event{a, b}, 2, false)
		right(t, []api.Event{b, a}, 2, false)
		right(t, []api.Event{a, a}, 2, false)
		b.Client = 1
		right(t, []api.Event{a, b}, 2, true)
		right(t, []api.Event{a, event(1, op, 1, 1, 1)}, 2, true)
	}
	right(t, []api.Event{event(0, 0, 1, 1, 1), event(0, 1, 3, 3, 3), event(0, 2, 5, 5, 5), event(0, 1, 7, 7, 7)}, 1, false)
}

// P18.1: Ops may leave some out, and may be whatever they are; what ended when the next one began is no right one.
func TestRightOneClient(t *testing.T) {
	for _, x := range []struct {
		l    []api.Event
		want bool
	}{
		{[]api.Event{event(0, 0, 1, 2, 3), event(0, 1, 4, 5, 6), event(0, 2, 7, 7, 7)}, true},
		{[]api.Event{event(0, 2, 7, 7, 7), event(0, 0, 1, 2, 3), event(0, 1, 4, 5, 6)}, true},
		{[]api.Event{event(0, 3, 1, 2, 3), event(0, 60, 4, 5, 6), event(0, 61, 7, 7, 7)}, true},
		{[]api.Event{event(0, math.MinInt, 1, 2, 3), event(0, -1, 4, 5, 6), event(0, math.MaxInt, 7, 7, 7)}, true},
		{[]api.Event{event(0, math.MaxInt, 1, 2, 3), event(0, math.MinInt, 4, 5, 6)}, false},
		{[]api.Event{event(0, 0, 1, 2, 4), event(0, 1, 4, 5, 6)}, false},
		{[]api.Event{event(0, 0, 1, 1, 1), event(0, 1, 1, 1, 1)}, false},
		{[]api.Event{event(0, 1, 1, 2, 3), event(0, 0, 4, 5, 6)}, false},
		{[]api.Event{event(0, 0, 1, 2, 3), event(0, 2, 4, 5, 6), event(0, 1, 7, 7, 7)}, false},
		{[]api.Event{event(0, 0, 1, 2, 9), event(0, 1, 4, 5, 6), event(0, 2, 10, 10, 10)}, false},
	} {
		right(t, x.l, 1, x.want)
		right(t, append(x.l, event(1, 0, 1, 5, 9)), 2, x.want)
	}
}
