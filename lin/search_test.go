package lin_test

import (
	"testing"

	"withy/api"
	"withy/lin"
)

// oneByOne are so many events, each of them the same, one behind the other.
func oneByOne(n int, e api.Event) []api.Event {
	var l []api.Event
	for i := range n {
		e.Op, e.Begun, e.Point, e.Ended = i, 10*i, 10*i+5, 10*i+5
		l = append(l, e)
	}
	return l
}

// P19.2: seven events are searched at most: as many, fewer, and more, which aren't, whatever they are.
func TestMaxSearch(t *testing.T) {
	if lin.MaxSearch != 7 {
		t.Fatalf("MaxSearch: %d", lin.MaxSearch)
	}
	c := config(1, 2, 2)
	for _, n := range []int{0, 1, 2, 6, 7, 8, 9, 64, 1000} {
		for _, e := range []api.Event{naught(0, 1, 1), never(0, 1, 1), naught(5, 1, 1), {Begun: 9, Ended: 1}} {
			l := oneByOne(n, e)
			switch {
			case n > 7:
				findsNone(t, c, l, api.ErrLong)
			case e == naught(0, 1, 1) || n == 0:
				finds(t, c, l, upTo(n)...)
			default:
				findsNone(t, c, l, api.OK)
			}
		}
		if c.Clients = 0; n > 0 {
			findsNone(t, c, oneByOne(n, naught(0, 1, 1)), api.ErrArg)
		}
		c.Clients = 2
	}
}

// P19.2: where nothing was called the order without numbers is found, of a nil history, too.
func TestSearchNothing(t *testing.T) {
	for _, c := range []api.Config{config(0, 1, 1), config(8, 8, 16)} {
		finds(t, c, nil)
		finds(t, c, []api.Event{})
		finds(t, c, []api.Event{naught(0, 3, 3)}, 0)
		findsNone(t, c, []api.Event{never(0, 3, 3)}, api.OK)
	}
}

// P19.2: of events that are taken at any time, which all overlap, the order comes first in which they stand; where one is behind the other, the one that there is, wherever they stand.
func TestSearchByTimes(t *testing.T) {
	c := config(1, 2, 2)
	for n := range 8 {
		overlapping, apart := make([]api.Event, n), make([]api.Event, n)
		var turned []int
		for i := range n {
			overlapping[i] = naught(i%2, i, 20-i)
			apart[i] = naught(i%2, 100-10*i, 105-10*i)
			turned = append([]int{i}, turned...)
		}
		finds(t, c, overlapping, upTo(n)...)
		finds(t, c, apart, turned...)
	}
	// Of two that are at one time at an end the lower number comes first; a time apart, the one that ended.
	finds(t, c, []api.Event{naught(0, 3, 5), naught(1, 1, 3)}, 0, 1)
	finds(t, c, []api.Event{naught(0, 4, 5), naught(1, 1, 3)}, 1, 0)
	finds(t, c, []api.Event{naught(0, 3, 3), naught(1, 3, 3)}, 0, 1)
	// One that all others overlap comes as early as its number says.
	finds(t, c, []api.Event{naught(0, 8, 9), naught(1, 1, 20), naught(0, 4, 5), naught(0, 1, 2)}, 1, 3, 2, 0)
	finds(t, c, []api.Event{naught(0, 8, 9), naught(0, 4, 5), naught(0, 1, 2), naught(1, 1, 20)}, 2, 1, 0, 3)
	finds(t, c, []api.Event{naught(0, 8, 9), naught(0, 4, 5), naught(1, 1, 20), naught(0, 1, 2)}, 2, 3, 1, 0)
	finds(t, c, []api.Event{naught(0, 8, 9), naught(0, 4, 5), naught(1, 3, 20), naught(0, 1, 2)}, 3, 1, 0, 2)
}

// P19.2: neither points nor Ops nor who is Behind has a say, nor whether a history is right: only who ended ahead of whom, and what a model takes.
func TestSearchAsksNoPoints(t *testing.T) {
	c := config(1, 2, 2)
	l := []api.Event{
		{Client: 0, Op: 3, Begun: 5, Point: 99, Ended: 6, Answer: only(api.ErrOp)},
		{Client: 0, Op: 3, Begun: 5, Point: -9, Ended: 6, Answer: only(api.ErrOp), Behind: true},
		{Client: 0, Op: 0, Begun: 5, Point: 0, Ended: 5, Answer: only(api.ErrOp)},
		{Client: 0, Op: -1, Begun: 1, Point: 9, Ended: 2, Answer: only(api.ErrOp), Behind: true},
	}
	finds(t, c, l, 3, 0, 1, 2)
	points(t, c, l, false)
	// One that ended ahead of where it began is ahead of itself, and stands behind itself nowhere; two of these that are ahead of one another stand wrong in each order.
	finds(t, c, []api.Event{naught(0, 9, 1)}, 0)
	finds(t, c, []api.Event{naught(0, 9, 1), naught(1, 1, 12)}, 0, 1)
	findsNone(t, c, []api.Event{naught(0, 9, 1), naught(1, 8, 2)}, api.OK)
	findsNone(t, c, []api.Event{naught(0, 5, 5), naught(0, 9, 1), naught(1, 8, 2)}, api.OK)
}

// P19.2: histories that a model takes in one order alone, in several, of which the one that comes first is found, and in none.
func TestSearchByModel(t *testing.T) {
	c := config(1, 2, 3)
	made := did(0, 1, 99, makes(1), gives(5))
	linked := did(0, 1, 99, link(5, 0, 5), ok)
	unlinked := did(0, 1, 99, unlink(5, 0), ok)
	loaded := did(0, 1, 99, load(5, 0), gives(6))
	nothing := did(0, 1, 99, load(5, 0), ok)
	swapped := did(0, 1, 99, swap(5, 0, 6, 5), yes)
	gone := did(0, 1, 99, release(5), ok)
	for _, x := range []struct {
		l    []api.Event
		want []int
	}{
		{[]api.Event{loaded, linked, made}, []int{2, 1, 0}},
		{[]api.Event{gone, loaded, linked, made}, []int{3, 2, 1, 0}},
		{[]api.Event{gone, swapped, loaded, linked, made}, []int{4, 3, 2, 1, 0}},
		{[]api.Event{nothing, linked, made}, []int{2, 0, 1}},
		{[]api.Event{linked, nothing, made}, []int{2, 1, 0}},
		{[]api.Event{nothing, linked, unlinked, made}, []int{3, 0, 1, 2}},
		{[]api.Event{loaded, nothing, unlinked, linked, made}, []int{4, 1, 2, 3, 0}},
		{[]api.Event{unlinked, loaded, nothing, linked, made}, []int{4, 0, 2, 3, 1}},
		{[]api.Event{unlinked, linked, nothing, loaded, gone, made}, []int{5, 0, 2, 1, 3, 4}},
		{[]api.Event{gone, nothing, unlinked, loaded, swapped, linked, made}, []int{6, 1, 2, 5, 3, 4, 0}},
		{[]api.Event{made, loaded, linked}, []int{0, 2, 1}},
	} {
		finds(t, c, x.l, x.want...)
	}
	for _, l := range [][]api.Event{
		{made, made},
		{linked, gone},
		{made, loaded},
		{made, loaded, nothing, unlinked},
		{made, gone, gone},
		{made, linked, loaded, loaded},
		{made, linked, swapped},
		{made, unlinked, unlinked, nothing, gone, linked, swapped},
	} {
		findsNone(t, c, l, api.OK)
	}
}

// P19.2: the order must do both: respect the history, and be taken; what does one of the two alone isn't found.
func TestSearchByBoth(t *testing.T) {
	c := config(1, 2, 3)
	l := []api.Event{
		did(0, 5, 9, load(5, 0), gives(6)),
		did(0, 3, 7, link(5, 0, 5), ok),
		did(0, 1, 4, makes(1), gives(5)),
	}
	finds(t, c, l, 2, 1, 0)
	l[0].Ended, l[1].Begun = 5, 6
	findsNone(t, c, l, api.OK)
	l[0].Ended = 6
	finds(t, c, l, 2, 1, 0)
	l[2].Begun, l[2].Ended = 8, 9
	findsNone(t, c, l, api.OK)
}

// P19.2: what was tried and left has left nothing behind: a way on may be as deep as it was ahead of it.
func TestSearchComesBack(t *testing.T) {
	c := config(1, 2, 16)
	l := []api.Event{
		did(0, 1, 99, load(5, 0), gives(8)),
		did(0, 1, 99, link(5, 0, 5), ok),
		did(0, 1, 99, unlink(5, 0), ok),
		did(0, 1, 99, swap(5, 0, 5, 0), yes),
		did(0, 1, 99, load(5, 0), gives(9)),
		did(0, 1, 99, swap(5, 0, 0, 5), yes),
		did(0, 1, 99, makes(1), gives(5)),
	}
	finds(t, c, l, 6, 1, 0, 2, 3, 4, 5)
	l[0].Ended = 50
	for i := 1; i < 6; i++ {
		l[i].Begun = 51
	}
	findsNone(t, c, l, api.OK)
	l[1].Begun = 40
	finds(t, c, l, 6, 1, 0, 2, 3, 4, 5)
	l[1].Begun, l[3].Begun = 51, 40
	finds(t, c, l, 6, 3, 0, 1, 4, 5, 2)
}
