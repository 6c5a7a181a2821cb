package field

// Book notes when things take effect. Now is the time, which whoever makes steps sets ahead of each.
type Book struct {
	Now    int
	born   map[int]int    // the points of the records that were stamped last, by their slots
	turned map[uint64]int // the points of the views
}

// NewBook is a book in which nothing is noted.
func NewBook() *Book {
	return &Book{}
}

// Born is a record's point.
func (b *Book) Born(rec int) int {
	if b == nil {
		return none
	}
	return noted(b.born, rec)
}

// Turned is a view's point.
func (b *Book) Turned(view uint64) int {
	if b == nil {
		return none
	}
	return noted(b.turned, view)
}

// noted is the point that stands in a map.
func noted[K comparable](points map[K]int, of K) int {
	if point, ok := points[of]; ok {
		return point
	}
	return none
}

// noteBorn notes a record's point, in place of that of the one that stood in its slot ahead of it. The maps are made with what is noted first, so that a book that no maker made has them, too.
func (b *Book) noteBorn(rec, point int) {
	if b.born == nil {
		b.born = map[int]int{}
	}
	b.born[rec] = point
}

// noteTurned notes that the clock is turned on from a view now.
func (b *Book) noteTurned(view uint64) {
	if b.turned == nil {
		b.turned = map[uint64]int{}
	}
	b.turned[view] = b.Now
}
