package heap_test

import (
	"testing"

	"withy/api"
	"withy/heap"
	"withy/plan"
)

// isNothing holds what is told of words that say nothing against nothing.
func isNothing(t *testing.T, c api.Config, words []uint64) {
	t.Helper()
	if heap.Reached(c, words) != nil || heap.Needed(c, words) != nil || heap.Check(c, words) != heap.BadWords {
		t.Fatalf("%+v, %d words: Reached %v, Needed %v, Check %d", c, len(words), heap.Reached(c, words), heap.Needed(c, words), heap.Check(c, words))
	}
	for _, slot := range []int{-1, 0, 1, 63, 64} {
		if l := heap.Fields(c, words, slot); len(l) > 0 {
			t.Fatalf("%+v, %d words: Fields of %d: %v", c, len(words), slot, l)
		}
	}
}

// P23.1, P23.2: of configs that aren't right, whatever the words.
func TestWrongConfigs(t *testing.T) {
	for _, c := range wrongConfigs() {
		isNothing(t, c, nil)
		isNothing(t, c, []uint64{})
		for _, n := range []int{1, 4, 13, 21, 1000} {
			isNothing(t, c, make([]uint64, n))
		}
		for _, right := range configs() {
			isNothing(t, c, plan.Memory(right).Words())
		}
	}
}

// P23.1, P23.2: of words of another config, unless they are as many; and of none.
func TestOtherWords(t *testing.T) {
	for _, c := range configs() {
		isNothing(t, c, nil)
		isNothing(t, c, []uint64{})
		words := plan.Memory(c).Words()
		isNothing(t, c, words[1:])
		isNothing(t, c, append(words, 0))
		for _, other := range configs() {
			if plan.Size(other) != plan.Size(c) {
				isNothing(t, c, plan.Memory(other).Words())
			}
		}
	}
}

// P23.1 to P23.3: no words of a config have a call panic, or not end.
func TestAnyWords(t *testing.T) {
	seed := uint64(1)
	for n := range 3000 {
		c := configs()[n%len(configs())]
		words := make([]uint64, plan.Size(c))
		same := draw(&seed, 3) == 0
		few := uint64(draw(&seed, 70))
		for i := range words {
			words[i] = uint64(draw(&seed, 1<<31))<<33 ^ uint64(draw(&seed, 1<<31))
			if same || draw(&seed, 2) == 0 {
				words[i] = few
			}
		}
		reached, needed := heap.Reached(c, words), heap.Needed(c, words)
		for slot := range c.Slots {
			if needed[slot] && !reached[slot] {
				t.Fatalf("the slot %d is needed, and not reached", slot)
			}
		}
		if heap.Check(c, words) == heap.BadWords {
			t.Fatal("BadWords of as many words as there are")
		}
		for slot := -2; slot < c.Slots+2; slot++ {
			heap.Fields(c, words, slot)
		}
	}
}

// Rule 4: what is answered is new memory, each time.
func TestNewAnswers(t *testing.T) {
	k := graph(t)
	reached, needed, fields := heap.Reached(k.c, k.words), heap.Needed(k.c, k.words), heap.Fields(k.c, k.words, 0)
	for slot := range reached {
		reached[slot], needed[slot] = !reached[slot], !needed[slot]
	}
	fields[0] = 99
	k.reached(0, 1, 2, 3, 4)
	k.needed(0, 1, 2, 3, 4)
	k.fields(0, 1, none)
}
