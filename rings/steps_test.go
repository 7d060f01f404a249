package rings

import (
	"testing"

	"shunter/api"
)

// model is rings told in the chapter's words: a list of all that is there, in the order in which it was pushed, each with its queue.
type model struct {
	shape
	r    *Rings
	rows []row
}

type row struct {
	at place
	x  api.Packet
}

func modelOf(t *testing.T, s shape) *model {
	t.Helper()
	return &model{shape: s, r: begun(t, s)}
}

func (m *model) isQueue(at place) bool {
	return at.in >= 0 && at.out >= 0 && at.lane >= 0 && at.in < m.ports && at.out < m.ports && at.lane < m.lanes
}

func (m *model) push(t *testing.T, at place, x api.Packet) {
	t.Helper()
	want := m.isQueue(at) && len(m.rows) < m.slots
	if got := m.r.Push(at.in, at.out, at.lane, x); got != want {
		t.Fatalf("%v, %d of %d there: Push(%v) = %v, want %v", m.shape, len(m.rows), m.slots, at, got, want)
	}
	if want {
		m.rows = append(m.rows, row{at, x})
	}
	m.stands(t, at)
}

func (m *model) pop(t *testing.T, at place) {
	t.Helper()
	var want api.Packet
	found := false
	for i, w := range m.rows {
		if w.at == at {
			want, found = w.x, true
			m.rows = append(m.rows[:i:i], m.rows[i+1:]...)
			break
		}
	}
	if got, ok := m.r.Pop(at.in, at.out, at.lane); ok != found || got != want {
		t.Fatalf("%v: Pop(%v) = %v, %v, want %v, %v", m.shape, at, got, ok, want, found)
	}
	m.stands(t, at)
}

// stands holds behind any steps: a queue has what was pushed to it and not yet popped, in order, and no slot is in use, and no queue kept, beside those of what is there.
func (m *model) stands(t *testing.T, at place) {
	t.Helper()
	var want []api.Packet
	queues := map[place]int{}
	for _, w := range m.rows {
		queues[w.at]++
		if w.at == at {
			want = append(want, w.x)
		}
	}
	wantQueue(t, m.r, at, want...)
	if free := m.r.kept.Free(); free != m.slots-len(m.rows) {
		t.Fatalf("%v: %d slots are empty, %d packets are there", m.shape, free, len(m.rows))
	}
	if len(m.r.kept.queues) != len(queues) {
		t.Fatalf("%v: %d queues are kept, %d have a packet", m.shape, len(m.r.kept.queues), len(queues))
	}
}

// drain looks at all queues, and pops all that is there, the queue that was pushed to last first.
func (m *model) drain(t *testing.T) {
	t.Helper()
	for _, at := range m.places() {
		m.stands(t, at)
	}
	for len(m.rows) > 0 {
		m.pop(t, m.rows[len(m.rows)-1].at)
	}
	for _, at := range m.places() {
		wantEmpty(t, m.r, at)
	}
}

func TestAgainstAModel(t *testing.T) {
	for _, s := range shapes {
		for seed := range uint32(6) {
			m := modelOf(t, s)
			x := seed*977 + uint32(s.slots)
			for i := range 600 {
				x = x*1664525 + 1013904223
				at := place{int(x>>8)%(s.ports+1) - 1 + int(x>>20&1), int(x>>12) % s.ports, int(x>>16) % s.lanes}
				// Half of what is asked goes to few queues, so that some of them grow long.
				if x>>30&1 == 0 {
					at = place{0, int(x>>21&1) % s.ports, s.lanes - 1}
				}
				// Some runs fill the slots, some empty them, so that both ends are seen.
				if x>>24&7 < 2+seed {
					m.push(t, at, packet(i))
				} else {
					m.pop(t, at)
				}
			}
			m.drain(t)
		}
	}
}

// FuzzSteps does any steps, four bytes each: what to do, and three numbers of a queue.
func FuzzSteps(f *testing.F) {
	f.Add(2, 1, 2, []byte{0, 2, 3, 2, 0, 2, 3, 2, 0, 3, 2, 2, 1, 2, 3, 2, 0, 4, 2, 2})
	f.Add(16, 3, 200, []byte{0, 17, 17, 4, 0, 18, 2, 2, 0, 2, 18, 2, 0, 2, 2, 5, 0, 1, 2, 2, 1, 17, 17, 4})
	f.Add(1, 1, 1, []byte{0, 2, 2, 2, 0, 2, 2, 2, 1, 2, 2, 2, 1, 2, 2, 2})
	f.Add(0, 1, 1, []byte{})
	f.Add(17, 1, 1, []byte{})
	f.Add(1, 0, 1, []byte{})
	f.Add(1, 4, 1, []byte{})
	f.Add(1, 1, 0, []byte{})
	f.Add(1, 1, 201, []byte{})
	f.Fuzz(func(t *testing.T, ports, lanes, slots int, steps []byte) {
		r := New(ports, lanes, slots)
		may := 1 <= ports && ports <= 16 && 1 <= lanes && lanes <= 3 && 1 <= slots && slots <= 200
		if may != (r != nil) {
			t.Fatalf("New(%d, %d, %d): there are: %v, want %v", ports, lanes, slots, r != nil, may)
		}
		if r == nil {
			return
		}
		m := modelOf(t, shape{ports, lanes, slots})
		for n := 0; len(steps) >= 4; n++ {
			at := place{int(steps[1]) - 2, int(steps[2]) - 2, int(steps[3]) - 2}
			if steps[0]%2 == 0 {
				m.push(t, at, packet(n))
			} else {
				m.pop(t, at)
			}
			steps = steps[4:]
		}
		m.drain(t)
	})
}
