package world_test

import (
	"withy/api"
)

// drawn draws programs.
type drawn struct {
	seed    *uint64
	c       api.Config
	given   [][]int // of each client the operations that may be answered a handle
	walks   [][]int // of each client its Opens
	program []api.Op
}

// programs are as many as there are clients, of so many operations.
func programs(seed *uint64, c api.Config, n int) [][]api.Op {
	d := &drawn{seed: seed, c: c, given: make([][]int, c.Clients), walks: make([][]int, c.Clients)}
	var l [][]api.Op
	for who := range c.Clients {
		d.program = nil
		for i := range n {
			d.program = append(d.program, d.op(who, i))
		}
		l = append(l, d.program)
	}
	return l
}

// kind is a drawn kind, seldom none: at first nodes are made, and what is made is linked, oftener than let go.
func (d *drawn) kind(i int) int {
	kinds := []int{api.New, api.New, api.New, api.Link, api.Link, api.Link, api.Load, api.Load, api.Swap, api.Swap, api.Unlink, api.Same, api.Release, api.Release, api.Open, api.Next, api.Next, api.Close}
	switch {
	case i < 2:
		return api.New
	case draw(d.seed, 40) == 0:
		return []int{-1, 0, 11, 1 << 40}[draw(d.seed, 4)]
	}
	return kinds[draw(d.seed, len(kinds))]
}

// op is a client's operation of a number.
func (d *drawn) op(who, i int) api.Op {
	o := api.Op{Kind: d.kind(i), N: d.number(), H: d.arg(who, i), X: d.arg(who, i), Y: d.arg(who, i)}
	switch o.Kind {
	case api.New, api.Load:
		d.given[who] = append(d.given[who], i)
	case api.Next, api.Close:
		if n := len(d.walks[who]); n > 0 && draw(d.seed, 20) > 0 {
			o.H = own(d.walks[who][n-1])
		}
		if o.Kind == api.Next {
			d.given[who] = append(d.given[who], i)
		}
	case api.Open:
		d.walks[who] = append(d.walks[who], i)
	}
	return o
}

// number is an arity or a field, seldom none.
func (d *drawn) number() int {
	if draw(d.seed, 30) == 0 {
		return []int{-1, d.c.Arity, d.c.Arity + 1, 1 << 40}[draw(d.seed, 4)]
	}
	return draw(d.seed, d.c.Arity+1)
}

// arg is an argument: mostly what one of the client's operations may have been answered, else whatever.
func (d *drawn) arg(who, i int) api.Arg {
	switch draw(d.seed, 24) {
	case 0:
		return api.Arg{Of: i + draw(d.seed, 3), Client: -1}
	case 1:
		return api.Arg{Of: draw(d.seed, i+1), Client: draw(d.seed, d.c.Clients+2) - 1}
	case 2:
		return raw(handle(draw(d.seed, d.c.Clients), draw(d.seed, d.c.Handles), uint64(1+draw(d.seed, 3))))
	case 3:
		return raw(handle(who, 255, uint64(1+draw(d.seed, 2))))
	case 4, 5:
		return raw(0)
	}
	l := d.given[who]
	if len(l) == 0 {
		return own(0)
	}
	if draw(d.seed, 2) == 0 {
		return own(l[draw(d.seed, len(l))])
	}
	return own(l[max(len(l)-1-draw(d.seed, 4), 0)])
}
