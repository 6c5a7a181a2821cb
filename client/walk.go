package client

import (
	"withy/api"
	"withy/field"
	"withy/iter"
	"withy/plan"
	"withy/tag"
)

// walkEntry is what a walk's handle has for the number of an entry.
const walkEntry = 255

// What a view word is.
const (
	noWalk    = iota // the client has no walk
	soonAWalk        // it is about to have one
	aWalk            // this, and the walk's view
)

// walk is a client's walk, or none.
type walk struct {
	*iter.Walk
	handle uint64
	start  int
}

// opens does an Open. The collector is told that there will be a walk ahead of the view that is to be kept for it.
func (k *Client) opens(start int) {
	k.stores(plan.View(k.c, k.who), soonAWalk, func() {
		k.stores(plan.Start(k.c, k.who), naming(start), func() { k.turns(start) })
	})
}

// turns has the walk have its view.
func (k *Client) turns(start int) {
	clock := field.NewTurn(k.c, k.b)
	k.does(clock, func() {
		k.stores(plan.View(k.c, k.who), clock.View+aWalk, func() {
			k.walks++
			h, _ := tag.Handle(k.who, walkEntry, k.walks)
			k.walk = walk{iter.NewWalk(k.c, start, clock.View, k.b), h, start}
			k.endsAs(outcome{api.Answer{H: h}, clock.Point, true})
		})
	})
}

// goesOn does a Next.
func (k *Client) goesOn() {
	k.does(k.walk, func() { k.takes(k.walk.Go(), k.ends) })
}

// closes does a Close.
func (k *Client) closes() {
	k.shades(k.walk.start, func() {
		k.stores(plan.Start(k.c, k.who), 0, func() {
			k.stores(plan.View(k.c, k.who), noWalk, func() {
				k.walk = walk{}
				k.ends(api.Answer{})
			})
		})
	})
}
