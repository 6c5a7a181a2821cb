package lin_test

import (
	"slices"
	"testing"

	"withy/api"
)

// at is an event with another point.
func at(point int, e api.Event) api.Event {
	e.Point = point
	return e
}

// behind is an event that took effect behind all else of its point.
func behind(e api.Event) api.Event {
	e.Behind = true
	return e
}

// picked are the events that an order names, one behind the other.
func picked(l []api.Event, order []int) []api.Event {
	var p []api.Event
	for _, i := range order {
		p = append(p, l[i])
	}
	return p
}

// P19.1: a model takes all of it in the order by points, wherever each event stands.
func TestPointsWhereverTheyStand(t *testing.T) {
	c, l := scene()
	l = append(l[:5:5], did(1, 35, 95, makes(0), gives(9)))
	l[5].Op = 1
	for _, order := range orders(len(l)) {
		points(t, c, picked(l, order), true)
	}
	spoilt := slices.Clone(l)
	spoilt[4].Answer = ok
	for _, order := range orders(len(l)) {
		points(t, c, picked(spoilt, order), false)
	}
	c, l = scene()
	slices.Reverse(l)
	points(t, c, l, true)
	l[4].Answer = yes
	points(t, c, l, false)
}

// P19.1: what two clients did at the same time, by whatever points, is right if each one's own is: they hold nothing of one another's.
func TestPointsOfSeveral(t *testing.T) {
	c := config(1, 2, 2)
	mine := []api.Event{did(0, 1, 3, makes(1), gives(5)), did(0, 4, 6, link(5, 0, 5), ok), did(0, 7, 9, load(5, 0), gives(6))}
	theirs := []api.Event{did(1, 1, 3, makes(1), gives(7)), did(1, 4, 6, load(7, 0), ok), did(1, 7, 9, load(5, 0), only(api.ErrHandle))}
	for _, mine := range [][]api.Event{mine, {at(1, mine[0]), at(4, mine[1]), at(7, mine[2])}, {behind(mine[0]), behind(mine[1]), behind(mine[2])}} {
		l := history(append(slices.Clone(mine), theirs...)...)
		points(t, c, l, true)
		l = history(append(slices.Clone(theirs), mine...)...)
		points(t, c, l, true)
		for i, a := range []api.Answer{only(api.ErrHandle), gives(8), ok, ok, gives(7), only(api.ErrRoom)} {
			spoilt := slices.Clone(l)
			spoilt[i].Answer = a
			points(t, c, spoilt, false)
		}
	}
}

// P19.1: no handle is given twice, by whatever points, to two clients neither.
func TestPointsOfOneHandle(t *testing.T) {
	c := config(1, 2, 2)
	a, b := did(0, 1, 9, makes(1), gives(5)), did(1, 1, 9, makes(1), gives(5))
	for _, l := range [][]api.Event{{a, b}, {at(3, a), b}, {a, at(3, b)}, {behind(a), b}, {a, behind(b)}} {
		points(t, c, l, false)
		replays(t, c, l, []int{0, 1}, 1)
		replays(t, c, l, []int{1, 0}, 1)
		l[1].Answer = gives(6)
		points(t, c, l, true)
	}
}

// P19.1: a history that isn't right isn't right by its points, though a model takes it all.
func TestPointsOfWrongOnes(t *testing.T) {
	c := config(1, 2, 2)
	good := []api.Event{naught(0, 1, 3), naught(0, 4, 6), naught(1, 1, 6)}
	points(t, c, history(good...), true)
	for n, spoil := range []func(l []api.Event){
		func(l []api.Event) { l[0].Point = 0 },
		func(l []api.Event) { l[0].Point = 4 },
		func(l []api.Event) { l[1].Begun = 3 },
		func(l []api.Event) { l[0].Ended = 4 },
		func(l []api.Event) { l[2].Begun = 7 },
		func(l []api.Event) { l[1].Op = 0 },
		func(l []api.Event) { l[0].Op, l[1].Op = 1, 0 },
		func(l []api.Event) { l[2].Client, l[2].Op = 0, 2 },
		func(l []api.Event) { l[0] = l[1] },
	} {
		l := history(slices.Clone(good)...)
		spoil(l)
		if !plainWhole(c, l, upTo(3)) {
			t.Fatalf("%d: a model doesn't take it", n)
		}
		points(t, c, l, false)
		replays(t, c, l, []int{0, 1, 2}, 3)
	}
}

// P19.1: the clients are the config's: the first and the last one, and none below or beyond.
func TestPointsClients(t *testing.T) {
	for _, clients := range []int{1, 2, 8} {
		c := config(1, clients, 2)
		points(t, c, history(naught(0, 1, 1), naught(clients-1, 2, 2)), true)
		for _, who := range noNumbers(clients) {
			l := history(naught(0, 1, 1), naught(who, 2, 2))
			points(t, c, l, false)
			replays(t, c, l, upTo(2), 1)
			findsNone(t, c, l, api.OK)
		}
	}
}

// P19.1: where nothing was called it is right.
func TestPointsOfNothing(t *testing.T) {
	for _, c := range []api.Config{config(0, 1, 1), config(8, 8, 16)} {
		points(t, c, nil, true)
		points(t, c, []api.Event{}, true)
	}
}

// P19.1: all is to be taken, from the first one to the last one, however much it is.
func TestPointsAsksAll(t *testing.T) {
	c := config(1, 2, 2)
	for n := 1; n < 40; n++ {
		var l []api.Event
		for i := range n {
			l = append(l, naught(i%2, 10*i, 10*i+5))
		}
		history(l...)
		points(t, c, l, true)
		for i := range l {
			l[i].Answer = ok
			points(t, c, l, false)
			l[i].Answer = only(api.ErrOp)
		}
	}
}

// P19.1: a long history, which a model takes, or all but its last event.
func TestPointsOfLongOnes(t *testing.T) {
	const n = 1 << 16
	c := config(1, 2, 2)
	l := []api.Event{did(0, 1, 2, makes(1), gives(7))}
	for i := 2; len(l) < n; i++ {
		h := uint64(10 * i)
		l = append(l, did(0, 40*i, 40*i+5, swap(7, 0, 7, 0), yes), did(0, 40*i+10, 40*i+15, load(7, 0), gives(h)), did(0, 40*i+20, 40*i+22, release(h), ok), did(0, 40*i+24, 40*i+25, unlink(7, 0), ok), naught(1, 40*i, 40*i+35))
	}
	history(l...)
	slices.Reverse(l)
	points(t, c, l, true)
	l[0].Answer = ok
	points(t, c, l, false)
	findsNone(t, c, l, api.ErrLong)
}
