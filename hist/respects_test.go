package hist_test

import (
	"math"
	"testing"

	"withy/api"
)

// histories are some of up to three events: none, one, one behind the other, overlapping, at one time, and such as aren't right.
func histories() [][]api.Event {
	return [][]api.Event{
		nil,
		{event(0, 0, 1, 2, 3)},
		{event(0, 0, 3, 2, 1)},
		{event(0, 0, 1, 2, 3), event(0, 1, 4, 5, 6)},
		{event(0, 0, 4, 5, 6), event(0, 1, 1, 2, 3)},
		{event(0, 0, 1, 2, 3), event(1, 0, 3, 4, 5)},
		{event(0, 0, 1, 1, 1), event(1, 0, 1, 1, 1)},
		{event(0, 0, 1, 2, 3), event(1, 0, 4, 5, 6), event(0, 1, 7, 7, 7)},
		{event(0, 0, 1, 2, 5), event(1, 0, 4, 5, 8), event(2, 1, 7, 7, 9)},
		{event(0, 0, 1, 2, 9), event(1, 0, 1, 2, 3), event(1, 1, 4, 5, 6)},
		{event(0, 0, 1, 2, 9), event(1, 0, 1, 2, 9), event(2, 1, 1, 2, 9)},
		{event(0, 0, 5, 2, 2), event(1, 0, 6, 2, 3), event(2, 1, 1, 2, 9)},
		{event(0, 0, math.MinInt, 0, math.MinInt), event(1, 0, math.MaxInt, 0, math.MaxInt), event(2, 0, 0, 0, 0)},
		{event(0, 0, math.MinInt, 0, math.MaxInt), event(1, 0, math.MinInt, 0, math.MinInt), event(2, 0, math.MaxInt, 0, math.MaxInt)},
	}
}

// P18.1: each history with all rows of numbers, of those that it has, and of one below and one beyond: such as lack one, have one twice, or are longer among them.
func TestRespectsOfAllRows(t *testing.T) {
	for _, l := range histories() {
		for length := range len(l) + 2 {
			for _, row := range rows(length, -1, len(l)) {
				respects(t, l, row, plainRespects(l, row))
			}
		}
	}
}

// P18.1: orders that respect a history, and orders that don't, by hand.
func TestRespects(t *testing.T) {
	one := []api.Event{event(0, 0, 1, 2, 3), event(0, 1, 4, 5, 6), event(0, 2, 7, 8, 9)}
	respects(t, one, []int{0, 1, 2}, true)
	for _, order := range orders(3)[1:] {
		respects(t, one, order, false)
	}
	// The last one is ahead of none that stands right ahead of it, but of one further ahead.
	far := []api.Event{event(0, 0, 6, 7, 8), event(1, 0, 1, 2, 9), event(2, 0, 3, 4, 5)}
	respects(t, far, []int{0, 1, 2}, false)
	respects(t, far, []int{0, 2, 1}, false)
	respects(t, far, []int{2, 0, 1}, true)
	respects(t, far, []int{1, 2, 0}, true)
	// What ended when another one began isn't ahead of it.
	touching := []api.Event{event(0, 0, 1, 2, 3), event(1, 0, 3, 4, 5), event(2, 0, 5, 5, 5)}
	respects(t, touching, []int{1, 0, 2}, true)
	respects(t, touching, []int{0, 2, 1}, true)
	respects(t, touching, []int{2, 0, 1}, false)
	respects(t, touching, []int{1, 2, 0}, false)
	// The points have no say.
	respects(t, []api.Event{event(0, 0, 1, 9, 9), event(1, 0, 1, 1, 9)}, []int{0, 1}, true)
}

// P18.1: an order lacks a number, has one twice, has one below 0 or beyond; also the lowest and the highest ones there are.
func TestRespectsNoOrders(t *testing.T) {
	for n := 1; n < 6; n++ {
		var l []api.Event
		var good []int
		for i := range n {
			l = append(l, event(i, 0, 1, 2, 3))
			good = append(good, i)
		}
		respects(t, l, good, true)
		for at := range n {
			respects(t, l, append(append([]int{}, good[:at]...), good[at+1:]...), false)
			respects(t, l, append(append([]int{}, good[:at+1]...), good[at:]...), false)
			for _, i := range noNumbers(n) {
				bad := append([]int{}, good...)
				bad[at] = i
				respects(t, l, bad, false)
				respects(t, l, append(append(append([]int{}, good[:at]...), i), good[at:]...), false)
			}
			for other := range n {
				bad := append([]int{}, good...)
				bad[at] = other
				respects(t, l, bad, other == at)
			}
		}
	}
}

// P18.1: of nothing that was called the order without numbers is the one that there is, nil or empty; of more it is none.
func TestRespectsNothing(t *testing.T) {
	for _, l := range [][]api.Event{nil, {}} {
		for _, order := range [][]int{nil, {}} {
			respects(t, l, order, true)
			respects(t, []api.Event{{}}, order, false)
		}
		for _, i := range append(noNumbers(0), 1) {
			respects(t, l, []int{i}, false)
		}
	}
}

// P18.1: an event that ended ahead of where it began stands behind no other one by that, and of two of these that are ahead of one another each stands wrong.
func TestRespectsBackwards(t *testing.T) {
	respects(t, []api.Event{event(0, 0, 9, 5, 1)}, []int{0}, true)
	two := []api.Event{event(0, 0, 9, 5, 1), event(1, 0, 8, 5, 2)}
	respects(t, two, []int{0, 1}, false)
	respects(t, two, []int{1, 0}, false)
}

// P18.1: histories that are drawn, right ones and others, with all their orders.
func TestRespectsOfDrawnOnes(t *testing.T) {
	seed := uint64(5)
	var counts [2]int
	for n := range 400 {
		l := spread(&seed, 1+n%3, 1+n%5)
		if n%4 == 0 {
			l = drawn(&seed, n%6)
		}
		for _, order := range orders(len(l)) {
			want := plainRespects(l, order)
			respects(t, l, order, want)
			if want {
				counts[1]++
			} else {
				counts[0]++
			}
		}
	}
	if counts[0] < 500 || counts[1] < 500 {
		t.Errorf("%d orders don't respect, %d do", counts[0], counts[1])
	}
}
