package shed

// list is the slots of a heap, as the library asks for them: it is a heap.Interface.
type list struct {
	nest  *Nest
	slots []int
}

// Len: how many there are.
func (l *list) Len() int {
	return len(l.slots)
}

// Less: does one belong nearer to the front?
func (l *list) Less(i, j int) bool {
	return l.nest.Ahead(l.slots[i], l.slots[j])
}

// Swap: two change their places.
func (l *list) Swap(i, j int) {
	l.slots[i], l.slots[j] = l.slots[j], l.slots[i]
	l.nest.places[l.slots[i]] = i
	l.nest.places[l.slots[j]] = j
}

// Push: one more at the end; the nest hands over slots alone.
func (l *list) Push(x any) {
	slot := x.(int)
	l.nest.places[slot] = len(l.slots)
	l.slots = append(l.slots, slot)
}

// Pop: the one at the end comes off.
func (l *list) Pop() any {
	last := len(l.slots) - 1
	slot := l.slots[last]
	l.slots = l.slots[:last]
	return slot
}
