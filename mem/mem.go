// Package mem is layer 2: see shared/doc/02-mem.md.
package mem

import "withy/api"

// Mem is a memory of words.
type Mem struct {
	words   []uint64
	touches int
	last    api.Touch
}

// Machine does some work, by one touch at most a step. Step answers whether the work is done; asked again then it does nothing, and answers true.
type Machine interface{ Step(m *Mem) bool }

// New is a memory of so many words.
func New(n int) *Mem {
	if n < 0 || n > api.MaxWords {
		return nil
	}
	return &Mem{words: make([]uint64, n)}
}

// Of is a memory of these words.
func Of(words []uint64) *Mem {
	m := New(len(words))
	if m != nil {
		copy(m.words, words)
	}
	return m
}

// has tells whether there is such a word; a nil memory has none.
func (m *Mem) has(at int) bool {
	return at >= 0 && at < m.Size()
}

// touch has a word that is there be now. Every touch goes through it, one that leaves the word as it was too, so that none is left uncounted.
func (m *Mem) touch(kind, at int, now uint64) {
	m.last = api.Touch{Kind: kind, At: at, Was: m.words[at], Now: now}
	m.words[at] = now
	m.touches++
}

// Size is how many words there are.
func (m *Mem) Size() int {
	if m == nil {
		return 0
	}
	return len(m.words)
}

// Load is a word.
func (m *Mem) Load(at int) uint64 {
	if !m.has(at) {
		return 0
	}
	v := m.words[at]
	m.touch(api.TLoad, at, v)
	return v
}

// Store lays a word.
func (m *Mem) Store(at int, v uint64) bool {
	if !m.has(at) {
		return false
	}
	m.touch(api.TStore, at, v)
	return true
}

// Swap lays a word where old stands, and tells whether it did.
func (m *Mem) Swap(at int, old, now uint64) bool {
	if !m.has(at) {
		return false
	}
	was := m.words[at]
	if was != old {
		m.touch(api.TSwap, at, was)
		return false
	}
	m.touch(api.TSwap, at, now)
	return true
}

// Add adds to a word, and answers the sum, which wraps round.
func (m *Mem) Add(at int, by uint64) uint64 {
	if !m.has(at) {
		return 0
	}
	sum := m.words[at] + by
	m.touch(api.TAdd, at, sum)
	return sum
}

// Touches is how many touches there were.
func (m *Mem) Touches() int {
	if m == nil {
		return 0
	}
	return m.touches
}

// Last is the last touch.
func (m *Mem) Last() api.Touch {
	if m == nil {
		return api.Touch{}
	}
	return m.last
}

// Words is all words.
func (m *Mem) Words() []uint64 {
	l := make([]uint64, m.Size())
	if m != nil {
		copy(l, m.words)
	}
	return l
}

// Copy is another memory that is as this one, its touches too.
func (m *Mem) Copy() *Mem {
	if m == nil {
		return nil
	}
	return &Mem{words: m.Words(), touches: m.touches, last: m.last}
}
