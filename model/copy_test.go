package model_test

import (
	"slices"
	"testing"

	"withy/api"
	"withy/model"
)

// P17.3: a copy tells what its model does, and may be answered what that may.
func TestCopiesAreAlike(t *testing.T) {
	for _, c := range configs() {
		b := newBench(t, c)
		for range 3 {
			if k := b.copied(); !slices.Equal(b.tells(), k.tells()) {
				t.Errorf("%+v: %v, and its copy %v", c, b.tells(), k.tells())
			}
			h := uint64(20 + len(b.given))
			b.m.Does(0, makes(c.Arity), gives(h))
			b.m.Does(0, link(h, 0, h), ok)
			b.m.Does(0, opens(h), gives(h+1))
			b.given = append(b.given, h, h+1)
			b.nodes++
		}
	}
}

// twins are a bench with two clients, nodes that name one another, and walks, and one of its copy.
func twins(t *testing.T) (*bench, *bench) {
	b := graph(t, 2, []int{1, 2}, []int{none, 0}, []int{2, none})
	b.orFull(1, makes(1), gives(30))
	b.is(0, opens(20), gives(9))
	b.is(0, next(9), gives(31))
	return b, b.copied()
}

// P17.3: what is done to one of the two does nothing to the other one, whichever is the copy: to its fields, handles, walks, nodes, and what was given.
func TestCopiesApart(t *testing.T) {
	for _, turned := range []bool{false, true} {
		b, other := twins(t)
		if turned {
			b, other = other, b
		}
		was := other.tells()
		b.orFull(0, link(20, 1, 20), ok)
		b.orFull(0, unlink(20, 0), ok)
		b.orFull(0, swap(22, 1, 21, 0), yes)
		b.is(0, next(9), gives(32))
		b.is(0, release(21), ok)
		b.is(0, closes(9), ok)
		b.orFull(0, makes(2), gives(33))
		b.is(0, opens(33), gives(34))
		b.is(1, release(30), ok)
		if !slices.Equal(was, other.tells()) {
			t.Fatalf("turned %v: %v, and then %v", turned, was, other.tells())
		}
		other.fields(0, 1, 2)
		other.fields(1, none, 0)
		other.fields(2, 2, none)
		other.fields(4)
		other.fields(3, none)
		other.node(0, 21, 1)
		other.node(1, 30, 3)
		other.is(0, next(9), gives(34))
		other.node(0, 34, 1)
		other.is(0, next(9), gives(33))
		other.node(0, 33, 2)
		other.fails(0, next(9), api.ErrDone)
		other.is(0, release(21), ok)
		other.is(0, closes(9), ok)
		other.is(0, opens(20), gives(32))
		other.walks(32, 0, 1, 2)
		b.walks(34, 4)
		b.fields(0, none, 0)
		b.fields(2, 2, 1)
	}
}

// P17.3: nodes that the two make behind the copy are their own, though they have the same numbers.
func TestCopiesMakeTheirOwn(t *testing.T) {
	b, other := twins(t)
	b.orFull(0, makes(2), gives(40))
	other.orFull(1, makes(1), gives(40))
	b.node(0, 40, 4)
	b.node(1, 40, none)
	other.node(1, 40, 4)
	other.node(0, 40, none)
	b.orFull(0, link(40, 1, 20), ok)
	other.orFull(1, link(40, 0, 30), ok)
	b.fields(4, none, 0)
	other.fields(4, 3)
	b.fails(1, load(40, 0), api.ErrHandle)
	other.fails(0, load(40, 0), api.ErrHandle)
}

// P17.3: a copy of a copy is as the first one, and stays so when both go on.
func TestCopiesOfCopies(t *testing.T) {
	b, other := twins(t)
	third := other.copied()
	was := third.tells()
	b.is(0, release(20), ok)
	other.is(0, next(9), gives(50))
	other.orFull(0, unlink(20, 0), ok)
	if !slices.Equal(was, third.tells()) {
		t.Fatalf("%v, and then %v", was, third.tells())
	}
	third.is(0, release(31), ok)
	third.walks(9, 1, 2)
	other.walks(9, 2)
	b.walks(9, 1, 2)
}

// P17.3: of nil: nil.
func TestCopyOfNil(t *testing.T) {
	var m *model.Model
	if m.Copy() != nil {
		t.Error("Copy of nil: a model")
	}
}
