package model_test

import (
	"slices"

	"withy/api"
)

// deed is a call that was done, with the nodes that it was about: what H, or X, was held as, and what its answer gave.
type deed struct {
	who         int
	call        api.Call
	a           api.Answer
	node, x, on int
}

// plain is the chapter told in another way: a log of all that was done, out of which each question is answered anew.
type plain struct {
	c   api.Config
	log []deed
}

// copied is another log of the same deeds.
func (p *plain) copied() *plain {
	return &plain{c: p.c, log: slices.Clone(p.log)}
}

// arities are those of all nodes.
func (p *plain) arities() []int {
	var l []int
	for _, d := range p.log {
		if d.call.Kind == api.New {
			l = append(l, d.call.N)
		}
	}
	return l
}

// field is what a field named when so many deeds were done: what was written last.
func (p *plain) field(node, i, deeds int) int {
	for _, d := range slices.Backward(p.log[:deeds]) {
		if d.node != node || d.call.N != i {
			continue
		}
		switch d.call.Kind {
		case api.Link, api.Swap:
			return d.x
		case api.Unlink:
			return none
		}
	}
	return none
}

// holds is what a client holds by a handle: what gave it, if nothing let it go behind that.
func (p *plain) holds(who int, h uint64) int {
	for _, d := range slices.Backward(p.log) {
		switch {
		case d.who != who || h == 0:
		case d.call.Kind == api.Release && d.call.H == h:
			return none
		case d.call.Kind != api.Open && d.a.H == h:
			return d.on
		}
	}
	return none
}

// held is how many handles a client holds.
func (p *plain) held(who int) int {
	n := 0
	for _, d := range p.log {
		if d.who == who && d.call.Kind == api.Release {
			n--
		} else if d.who == who && d.call.Kind != api.Open && d.a.H != 0 {
			n++
		}
	}
	return n
}

// gave tells whether a handle was given.
func (p *plain) gave(h uint64) bool {
	return slices.ContainsFunc(p.log, func(d deed) bool { return d.a.H == h })
}

// walk is when a client's walk was opened; -1 without one.
func (p *plain) walk(who int) int {
	for t, d := range slices.Backward(p.log) {
		if d.who == who && d.call.Kind == api.Close {
			return -1
		}
		if d.who == who && d.call.Kind == api.Open {
			return t
		}
	}
	return -1
}

// coming are the nodes that a walk is still to come to: those of its opening, level by level, less as many as it came to since.
func (p *plain) coming(who, opened int) []int {
	var all []int
	level := []int{p.log[opened].node}
	for len(level) > 0 {
		all = append(all, level...)
		var deeper []int
		for _, node := range level {
			for i := range p.arities()[node] {
				to := p.field(node, i, opened)
				if to != none && !slices.Contains(all, to) && !slices.Contains(deeper, to) {
					deeper = append(deeper, to)
				}
			}
		}
		level = deeper
	}
	for _, d := range p.log[opened:] {
		if d.who == who && d.call.Kind == api.Next {
			all = all[1:]
		}
	}
	return all
}

// due is how a call may be answered: an answer, which gives a handle that was never given, where gives is set; and ErrFull too, where full is set. on is the node of that handle.
type due struct {
	a           api.Answer
	gives, full bool
	on          int
}

// takes tells whether a call may be answered so.
func (p *plain) takes(d due, a api.Answer) bool {
	if d.full && a == only(api.ErrFull) {
		return true
	}
	if d.gives {
		return a == gives(a.H) && a.H != 0 && !p.gave(a.H)
	}
	return a == d.a
}

// due is what a call comes to.
func (p *plain) due(who int, call api.Call) due {
	room := p.held(who) < p.c.Handles
	switch call.Kind {
	case api.New:
		if call.N < 0 || call.N > p.c.Arity {
			return due{a: only(api.ErrArg)}
		}
		if !room {
			return due{a: only(api.ErrRoom)}
		}
		return due{gives: true, full: true, on: len(p.arities())}
	case api.Next, api.Close:
		return p.dueOfWalk(who, call, room)
	case api.Load, api.Link, api.Unlink, api.Swap, api.Release, api.Same, api.Open:
		return p.dueOfHandles(who, call, room)
	}
	return due{a: only(api.ErrOp)}
}

// dueOfWalk is what a Next or a Close comes to.
func (p *plain) dueOfWalk(who int, call api.Call, room bool) due {
	opened := p.walk(who)
	if opened < 0 || p.log[opened].a.H != call.H {
		return due{a: only(api.ErrDone)}
	}
	if call.Kind == api.Close {
		return due{}
	}
	row := p.coming(who, opened)
	if len(row) == 0 {
		return due{a: only(api.ErrDone)}
	}
	if !room {
		return due{a: only(api.ErrRoom)}
	}
	return due{gives: true, on: row[0]}
}

// asked are the handles that a call asks for, of which a 0 counts as held in a Swap's X and Y.
func asked(call api.Call) []uint64 {
	l := []uint64{call.H}
	if call.Kind == api.Link || call.Kind == api.Same || call.Kind == api.Swap && call.X != 0 {
		l = append(l, call.X)
	}
	if call.Kind == api.Swap && call.Y != 0 {
		l = append(l, call.Y)
	}
	return l
}

// dueOfHandles is what a call by handles comes to.
func (p *plain) dueOfHandles(who int, call api.Call, room bool) due {
	for _, h := range asked(call) {
		if p.holds(who, h) == none {
			return due{a: only(api.ErrHandle)}
		}
	}
	node := p.holds(who, call.H)
	switch call.Kind {
	case api.Release:
		return due{}
	case api.Same:
		return due{a: api.Answer{Yes: node == p.holds(who, call.X)}}
	case api.Open:
		if p.walk(who) >= 0 {
			return due{a: only(api.ErrOpen)}
		}
		return due{gives: true, on: none}
	}
	if call.N < 0 || call.N >= p.arities()[node] {
		return due{a: only(api.ErrField)}
	}
	now := p.field(node, call.N, len(p.log))
	switch {
	case call.Kind == api.Load && now == none:
		return due{}
	case call.Kind == api.Load && !room:
		return due{a: only(api.ErrRoom)}
	case call.Kind == api.Load:
		return due{gives: true, on: now}
	case call.Kind == api.Swap && now != p.holds(who, call.Y):
		return due{}
	}
	return due{a: api.Answer{Yes: call.Kind == api.Swap}, full: true}
}

// done notes what was answered, if anything was done by it.
func (p *plain) done(who int, call api.Call, d due, a api.Answer) {
	if a.Err != api.OK || call.Kind == api.Same || call.Kind == api.Load && a.H == 0 || call.Kind == api.Swap && !a.Yes {
		return
	}
	p.log = append(p.log, deed{who, call, a, p.holds(who, call.H), p.holds(who, call.X), d.on})
}
