package world

// What a Rest goes by: an epoch is in the phase that it leaves behind four of them, and from wherever the collector was, behind so many more nothing that can't be reached is left.
const (
	phases = 4
	fence  = 1
	enough = 9
)

// Rest has all calls end, and the collector go through cycles.
func (w *World) Rest() bool {
	if !w.made() {
		return false
	}
	w.endCalls()
	w.collect()
	return true
}

// endCalls has all calls end. The collector is picked, too, so that it does its share of the time that they take.
func (w *World) endCalls() {
	for who := 0; w.anyBusy(); who = (who + 1) % (w.collector() + 1) {
		if who == w.collector() || w.Busy(who) {
			w.Pick(who)
		}
	}
}

// collect has the collector go on, up to a fence: in the rest ahead of it the last garbage came back.
func (w *World) collect() {
	then := w.Epoch()
	for w.Epoch() < then+enough || w.Epoch()%phases != fence {
		w.Pick(w.collector())
	}
}
