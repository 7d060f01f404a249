package pool

import (
	"testing"

	"shunter/api"
)

// model is a pool told in the chapter's words: each slot knows when it was emptied (at 0, if it never had a packet), and which one comes is found by holding all of them against each other.
type model struct {
	p       *Pool
	has     []bool
	what    []api.Packet
	emptied []int
	now     int
}

func modelOf(t *testing.T, slots int) *model {
	t.Helper()
	return &model{p: begun(t, slots), has: make([]bool, slots), what: make([]api.Packet, slots), emptied: make([]int, slots)}
}

// comes is the slot that is filled next; -1: none.
func (m *model) comes() int {
	best := -1
	for slot, has := range m.has {
		if !has && (best < 0 || m.emptied[slot] > m.emptied[best]) {
			best = slot
		}
	}
	return best
}

func (m *model) put(t *testing.T, x api.Packet) {
	t.Helper()
	want := m.comes()
	slot, ok := m.p.Put(x)
	if want < 0 {
		if ok || slot != 0 {
			t.Fatalf("none is empty: Put = %d, %v, want 0, false", slot, ok)
		}
		return
	}
	if !ok || slot != want {
		t.Fatalf("Put = %d, %v, want %d, true (emptied at %v)", slot, ok, want, m.emptied)
	}
	m.has[slot], m.what[slot] = true, x
}

func (m *model) drop(t *testing.T, slot int) {
	t.Helper()
	want := 0 <= slot && slot < len(m.has) && m.has[slot]
	if got := m.p.Drop(slot); got != want {
		t.Fatalf("Drop(%d) = %v, want %v", slot, got, want)
	}
	if want {
		m.now++
		m.has[slot], m.emptied[slot] = false, m.now
	}
}

// stands holds behind any steps: each slot has what it was given last, and all that are empty are counted.
func (m *model) stands(t *testing.T) {
	t.Helper()
	free := 0
	for slot, has := range m.has {
		got, ok := m.p.Get(slot)
		if has && (!ok || got != m.what[slot]) {
			t.Fatalf("Get(%d) = %v, %v, want %v, true", slot, got, ok, m.what[slot])
		}
		if !has && (ok || got != api.Packet{}) {
			t.Fatalf("Get(%d) = %v, %v, want nothing, false", slot, got, ok)
		}
		if !has {
			free++
		}
	}
	if got := m.p.Free(); got != free {
		t.Fatalf("Free = %d, want %d", got, free)
	}
}

// drain puts till none is empty: in which order the slots come says all of what the pool keeps of the past.
func (m *model) drain(t *testing.T) {
	t.Helper()
	for i := range len(m.has) + 1 {
		m.put(t, packet(5000+i))
	}
	m.stands(t)
}

func TestAgainstAModel(t *testing.T) {
	for _, slots := range sizes {
		for seed := range uint32(6) {
			m := modelOf(t, slots)
			x := seed*977 + uint32(slots)
			for i := range 1500 {
				x = x*1664525 + 1013904223
				// Some runs fill the pool, some empty it, so that both ends are seen.
				if x>>24&7 < 2+seed {
					m.put(t, packet(i))
				} else {
					m.drop(t, int(x>>8&0xffff)%(slots+2)-1)
				}
				m.stands(t)
			}
			m.drain(t)
		}
	}
}

// FuzzSteps does any steps, two bytes each: what to do, and a slot.
func FuzzSteps(f *testing.F) {
	f.Add(3, []byte{0, 0, 0, 0, 1, 0, 0, 0, 0, 0})
	f.Add(1, []byte{1, 0, 0, 0, 0, 0, 1, 0, 1, 0, 1, 255})
	f.Add(200, []byte{0, 0, 0, 0, 0, 0, 1, 1, 1, 0, 0, 0, 1, 2, 1, 200})
	f.Add(0, []byte{0, 0})
	f.Add(201, []byte{0, 0})
	f.Fuzz(func(t *testing.T, slots int, steps []byte) {
		p := New(slots)
		if may := 1 <= slots && slots <= 200; may != (p != nil) {
			t.Fatalf("New(%d): there is one: %v, want %v", slots, p != nil, may)
		}
		if p == nil {
			return
		}
		m := modelOf(t, slots)
		for ; len(steps) >= 2; steps = steps[2:] {
			if steps[0]%2 == 0 {
				m.put(t, packet(int(steps[1])))
			} else {
				m.drop(t, int(steps[1])-2)
			}
			m.stands(t)
		}
		m.drain(t)
	})
}
