package pairing

import (
	"slices"
	"testing"

	"haycock/api"
	"haycock/entry"
)

// tree is a slot, its entry, and what is below it, the newest child first; nil is none.
type tree struct {
	slot  int
	entry api.Entry
	kids  []*tree
}

// model is a nest, its trees by the chapter's words alone, and how many steps they should have taken.
type model struct {
	*watched
	trees map[int]*tree
	steps int
}

// link makes one tree of two.
func (m *model) link(a, b *tree) *tree {
	if a == nil {
		return b
	}
	if b == nil {
		return a
	}
	m.steps++
	if entry.Less(b.entry, a.entry) || b.entry == a.entry && b.slot < a.slot {
		a, b = b, a
	}
	a.kids = append([]*tree{b}, a.kids...)
	return a
}

// join links trees by twos, and then, from the last one on, what came of it.
func (m *model) join(row []*tree) *tree {
	if len(row) < 2 {
		return append(row, nil)[0]
	}
	first := m.link(row[0], row[1])
	return m.link(first, m.join(row[2:]))
}

// off takes a slot off its heap's tree, with all below it, and tells both.
func (m *model) off(slot int) (int, *tree) {
	for h, top := range m.trees {
		if top != nil && top.slot == slot {
			m.trees[h] = nil
			return h, top
		}
		if x := top.off(slot); x != nil {
			return h, x
		}
	}
	return 0, nil
}

// off takes a slot off what is above it.
func (x *tree) off(slot int) *tree {
	if x == nil {
		return nil
	}
	for i, kid := range x.kids {
		if kid.slot == slot {
			x.kids = slices.Delete(slices.Clone(x.kids), i, i+1)
			return kid
		}
		if found := kid.off(slot); found != nil {
			return found
		}
	}
	return nil
}

func (m *model) insert(h, slot int, e api.Entry) {
	if m.Insert(h, slot, e) {
		m.trees[h] = m.link(m.trees[h], &tree{slot: slot, entry: e})
	}
}

func (m *model) decrease(slot int, e api.Entry) {
	if m.Decrease(slot, e) {
		h, x := m.off(slot)
		x.entry = e
		m.trees[h] = m.link(m.trees[h], x)
	}
}

func (m *model) remove(slot int) {
	if m.Delete(slot) {
		h, x := m.off(slot)
		m.trees[h] = m.link(m.trees[h], m.join(x.kids))
	}
}

func (m *model) extract(h int) {
	if slot, ok := m.Extract(h); ok {
		if x := m.trees[h]; x == nil || x.slot != slot {
			m.t.Fatalf("Extract(%d) = %d, not the slot of %v", h, slot, x)
		}
		m.trees[h] = m.join(m.trees[h].kids)
	}
}

func (m *model) meld(a, b int) {
	if m.Meld(a, b) {
		m.trees[a] = m.link(m.trees[a], m.trees[b])
		m.trees[b] = nil
	}
}

// wantSame holds all trees against the nest's, slot for slot, and the steps, too.
func (m *model) wantSame(heaps int) {
	m.t.Helper()
	if m.Steps() != m.steps {
		m.t.Fatalf("%d steps, not %d", m.Steps(), m.steps)
	}
	for h := range heaps + 2 {
		x := m.trees[h]
		top, ok := m.Min(h)
		if ok != (x != nil) || ok && top != x.slot {
			m.t.Fatalf("Min(%d) = %d, %v, not the slot of %v", h, top, ok, x)
		}
		m.wantBelow(x)
	}
}

// wantBelow holds what is below a slot.
func (m *model) wantBelow(x *tree) {
	m.t.Helper()
	if x == nil {
		return
	}
	var kids []int
	for _, kid := range x.kids {
		kids = append(kids, kid.slot)
		m.wantBelow(kid)
	}
	m.wantKids(x.slot, kids...)
}

// TestModel holds the trees behind each of many calls, which hang on a number that is mixed again and again.
func TestModel(t *testing.T) {
	for seed := range uint64(80) {
		roll := roller(seed)
		capacity, heaps := 1+roll(60), 1+roll(5)
		m := &model{watched: fresh(t, capacity, heaps), trees: map[int]*tree{}}
		for range 500 {
			h, slot, e := roll(heaps+2), roll(capacity+2)-1, api.Entry{Key: int64(roll(40)), Seq: uint64(roll(2))}
			m.want(true, func() bool {
				switch roll(12) {
				case 0:
					m.extract(h)
				case 1:
					m.remove(slot)
				case 2, 3, 4:
					m.decrease(slot, e)
				case 5:
					m.meld(h, roll(heaps+2))
				case 6:
					if m.Make() == heaps+1 {
						heaps++
					}
				default:
					m.insert(h, slot, e)
				}
				return true
			})
			m.wantSame(heaps)
			m.wantTrees(heaps)
		}
	}
}

// TestModelOfOrders holds trees of several shapes, as their slots come off and out.
func TestModelOfOrders(t *testing.T) {
	const count = 48
	forOrders(count, func(keys []int64) {
		for step := 1; step < count; step += 2 {
			m := &model{watched: fresh(t, count, 1), trees: map[int]*tree{}}
			for slot, k := range keys {
				m.insert(1, slot, api.Entry{Key: k})
				m.wantSame(1)
			}
			for i := range count {
				switch slot := i * step % count; i % 3 {
				case 0:
					m.remove(slot)
				case 1:
					m.decrease(slot, api.Entry{Key: keys[slot] - 30})
				default:
					m.extract(1)
				}
				m.wantSame(1)
				m.wantTrees(1)
			}
		}
	})
}
