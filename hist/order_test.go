package hist_test

import (
	"math"
	"slices"
	"testing"

	"withy/api"
	"withy/hist"
)

// P18.2: by rising points, then those that aren't Behind, then by clients, then by Ops; and as they stand where all these are alike. When they began and ended, and what was called, counts for nothing.
func TestOrderOfAllWays(t *testing.T) {
	l := []api.Event{
		{Point: math.MinInt, Behind: true, Client: 9, Op: 9},
		{Point: -3, Client: 2, Op: 2},
		{Point: 1, Client: 4, Op: 4, Begun: 9, Ended: 9},
		{Point: 2, Client: math.MinInt, Op: 8},
		{Point: 2, Client: 0, Op: math.MinInt, Begun: 9},
		{Point: 2, Client: 0, Op: -1, Begun: 8, Ended: 3},
		{Point: 2, Client: 0, Op: math.MaxInt},
		{Point: 2, Client: 1, Op: 0},
		{Point: 2, Client: math.MaxInt, Op: -5},
		{Point: 2, Client: 0, Op: 0, Behind: true},
		{Point: 2, Client: 0, Op: 1, Behind: true},
		{Point: 2, Client: 1, Op: 0, Behind: true},
		{Point: 3, Client: 0, Op: 0},
		{Point: math.MaxInt, Client: -1, Op: -1},
	}
	seed := uint64(1)
	for range 300 {
		shuffled := make([]int, len(l))
		for i := range shuffled {
			shuffled[i] = i
		}
		for i := range shuffled {
			j := i + draw(&seed, len(l)-i)
			shuffled[i], shuffled[j] = shuffled[j], shuffled[i]
		}
		want := make([]int, len(l))
		for at, i := range shuffled {
			want[i] = at
		}
		ordered(t, picked(l, shuffled), want...)
	}
}

// P18.2: each two of these, in both orders.
func TestOrderOfPairs(t *testing.T) {
	for _, x := range []struct{ a, b api.Event }{
		{event(1, 1, 0, 1, 9), event(0, 0, 0, 2, 9)},
		{behind(event(1, 1, 0, 1, 9)), event(0, 0, 0, 2, 9)},
		{event(1, 1, 0, 1, 9), behind(event(0, 0, 0, 1, 9))},
		{event(0, 1, 5, 1, 9), event(1, 0, 0, 1, 2)},
		{behind(event(0, 1, 5, 1, 9)), behind(event(1, 0, 0, 1, 2))},
		{event(0, 0, 5, 1, 9), event(0, 1, 0, 1, 2)},
		{behind(event(0, 0, 5, 1, 9)), behind(event(0, 1, 0, 1, 2))},
		{event(3, 3, 5, math.MinInt, 9), event(2, 2, 0, math.MaxInt, 2)},
		{event(math.MinInt, 3, 5, 1, 9), event(math.MaxInt, 2, 0, 1, 2)},
		{event(0, math.MinInt, 5, 1, 9), event(0, math.MaxInt, 0, 1, 2)},
	} {
		ordered(t, []api.Event{x.a, x.b}, 0, 1)
		ordered(t, []api.Event{x.b, x.a}, 1, 0)
		ordered(t, []api.Event{x.b, x.a, x.b, x.a}, 1, 3, 0, 2)
	}
}

// P18.2: of events that are alike in these the one first that stands first, also where they are unlike in other things, and of many.
func TestOrderOfLikeOnes(t *testing.T) {
	a := event(1, 2, 3, 4, 5)
	b := api.Event{Client: 1, Op: 2, Begun: 0, Point: 4, Ended: 4, Call: api.Call{Kind: api.New}, Answer: api.Answer{H: 3}}
	ordered(t, []api.Event{a, a}, 0, 1)
	ordered(t, []api.Event{a, b, a}, 0, 1, 2)
	ordered(t, []api.Event{b, a, b}, 0, 1, 2)
	ordered(t, []api.Event{b, behind(a), a, behind(b)}, 0, 2, 1, 3)
	for _, n := range []int{12, 13, 40, 300} {
		var l []api.Event
		var want []int
		for i := range n {
			l = append(l, a)
			l[i].Begun = n - i
			want = append(want, i)
		}
		ordered(t, l, want...)
		l[n-1].Point--
		ordered(t, l, append([]int{n - 1}, want[:n-1]...)...)
	}
}

// drawn is a history of so many events, with a few values of everything, so that many are alike in something.
func drawn(seed *uint64, n int) []api.Event {
	var l []api.Event
	for range n {
		e := event(draw(seed, 3), draw(seed, 3), draw(seed, 9), draw(seed, 4), draw(seed, 9))
		e.Behind = draw(seed, 2) == 0
		e.Answer.H = uint64(draw(seed, 3))
		l = append(l, e)
	}
	return l
}

// P18.2: histories that are drawn, against the plain telling.
func TestOrderOfDrawnOnes(t *testing.T) {
	seed := uint64(2)
	for n := range 3000 {
		l := drawn(&seed, n%40)
		ordered(t, l, plainOrder(l)...)
	}
}

// spread is a history that is right, of so many clients, drawn: each client's events are one behind the other, and those of several clients overlap.
func spread(seed *uint64, clients, n int) []api.Event {
	var l []api.Event
	ops := make([]int, clients)
	times := make([]int, clients)
	for range n {
		who := draw(seed, clients)
		begun := times[who] + draw(seed, 4)
		point := begun + draw(seed, 4)
		ended := point + draw(seed, 4)
		e := event(who, ops[who], begun, point, ended)
		e.Behind = draw(seed, 2) == 0
		ops[who] += 1 + draw(seed, 2)
		times[who] = ended + 1
		l = append(l, e)
	}
	for i := range l {
		j := i + draw(seed, n-i)
		l[i], l[j] = l[j], l[i]
	}
	return l
}

// P18.1, P18.3: right histories that are drawn are right, and their order by points respects them; where a number of theirs is changed the plain telling says whether they still are.
func TestRightOnes(t *testing.T) {
	seed := uint64(3)
	var changed [2]int
	for n := range 4000 {
		clients := 1 + n%4
		l := spread(&seed, clients, 1+n%17)
		right(t, l, clients, true)
		respects(t, l, hist.Order(l), true)
		e := &l[draw(&seed, len(l))]
		at := []*int{&e.Client, &e.Op, &e.Begun, &e.Point, &e.Ended}[draw(&seed, 5)]
		*at += draw(&seed, 9) - 4
		want := plainRight(l, clients)
		right(t, l, clients, want)
		if want {
			changed[1]++
			respects(t, l, hist.Order(l), true)
		} else {
			changed[0]++
		}
	}
	if changed[0] < 500 || changed[1] < 500 {
		t.Errorf("changed: %d aren't right, %d are", changed[0], changed[1])
	}
}

// P18.2: the order names each event once, of histories that aren't right, too.
func TestOrderNamesAll(t *testing.T) {
	seed := uint64(4)
	for n := range 500 {
		l := drawn(&seed, n%30)
		order := hist.Order(l)
		slices.Sort(order)
		for i, was := range order {
			if i != was {
				t.Fatalf("Order(%+v): named %v", l, order)
			}
		}
		if len(order) != len(l) {
			t.Fatalf("Order(%+v): %d numbers", l, len(order))
		}
	}
}
