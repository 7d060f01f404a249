package host

import (
	"slices"
	"testing"

	"shunter/api"
)

// model is a host told in the chapter's words: one list of all that waits, in the order in which it was put, and one of all that came.
type model struct {
	h            *Host
	lanes, queue int
	waiting      []api.Packet
	came         []api.Packet
}

func modelOf(t *testing.T, lanes, queue int) *model {
	t.Helper()
	return &model{h: begun(t, lanes, queue), lanes: lanes, queue: queue}
}

// of is what waits in a lane.
func (m *model) of(lane int) []api.Packet {
	return slices.DeleteFunc(slices.Clone(m.waiting), func(x api.Packet) bool { return x.Lane != lane })
}

func (m *model) put(t *testing.T, x api.Packet) {
	t.Helper()
	want := api.OK
	switch {
	case x.Lane < 0 || x.Lane >= m.lanes:
		want = api.ErrArg
	case len(m.of(x.Lane)) == m.queue:
		want = api.ErrBack
	default:
		m.waiting = append(m.waiting, x)
	}
	if got := m.h.Put(x); got != want {
		t.Fatalf("%v wait: Put(%v) = %d, want %d", m.waiting, x, got, want)
	}
}

func (m *model) next(t *testing.T, lane int) {
	t.Helper()
	var want api.Packet
	i := slices.IndexFunc(m.waiting, func(x api.Packet) bool { return x.Lane == lane })
	if i >= 0 {
		want = m.waiting[i]
		m.waiting = slices.Delete(m.waiting, i, i+1)
	}
	if got, ok := m.h.Next(lane); ok != (i >= 0) || got != want {
		t.Fatalf("Next(%d) = %v, %v, want %v, %v", lane, got, ok, want, i >= 0)
	}
}

func (m *model) eject(x api.Packet) {
	m.came = append(m.came, x)
	m.h.Eject(x)
}

// stands holds behind any steps: in no lane wait more than may.
func (m *model) stands(t *testing.T) {
	t.Helper()
	for lane := -1; lane <= 4; lane++ {
		want := m.of(lane)
		wantWaits(t, m.h, lane, len(want))
		if len(want) > m.queue || len(want) > 0 && lane >= m.lanes {
			t.Fatalf("in lane %d wait %v", lane, want)
		}
	}
	wantGot(t, m.h, m.came...)
}

// drain takes all that waits: in which order it comes says all of what the host keeps.
func (m *model) drain(t *testing.T) {
	t.Helper()
	for lane := 4; lane >= -1; lane-- {
		for range m.queue + 1 {
			m.next(t, lane)
		}
		wantNone(t, m.h, lane)
	}
	m.stands(t)
}

func TestAgainstAModel(t *testing.T) {
	everyHost(t, func(_ *Host, lanes, queue int) {
		for seed := range uint32(6) {
			m := modelOf(t, lanes, queue)
			x := seed*977 + uint32(8*lanes+queue)
			for i := range 400 {
				x = x*1664525 + 1013904223
				lane := int(x>>8)%(lanes+2) - 1
				// Some runs fill the lanes, some empty them, so that both ends are seen.
				switch n := x >> 24 & 7; {
				case n == 7:
					m.eject(packet(i, lane))
				case n < 1+seed:
					m.put(t, packet(i, lane))
				default:
					m.next(t, lane)
				}
				m.stands(t)
			}
			m.drain(t)
		}
	})
}

// FuzzSteps does any steps, two bytes each: what to do, and a lane.
func FuzzSteps(f *testing.F) {
	f.Add(1, 1, []byte{0, 2, 0, 2, 1, 2, 0, 2})
	f.Add(3, 8, []byte{0, 2, 0, 3, 0, 4, 0, 5, 0, 1, 1, 4, 1, 5, 1, 1, 2, 9, 1, 2, 1, 2})
	f.Add(2, 2, []byte{0, 3, 0, 3, 0, 3, 2, 3, 1, 3, 0, 3, 1, 3, 1, 3, 1, 3})
	f.Add(0, 1, []byte{})
	f.Add(4, 1, []byte{})
	f.Add(1, 0, []byte{})
	f.Add(1, 9, []byte{})
	f.Add(-1, -1, []byte{})
	f.Fuzz(func(t *testing.T, lanes, queue int, steps []byte) {
		h := New(lanes, queue)
		if may := 1 <= lanes && lanes <= 3 && 1 <= queue && queue <= 8; may != (h != nil) {
			t.Fatalf("New(%d, %d): there is one: %v, want %v", lanes, queue, h != nil, may)
		}
		if h == nil {
			return
		}
		m := modelOf(t, lanes, queue)
		for n := 0; len(steps) >= 2; n++ {
			lane := int(steps[1]) - 2
			switch steps[0] % 3 {
			case 0:
				m.put(t, packet(n, lane))
			case 1:
				m.next(t, lane)
			default:
				m.eject(packet(n, lane))
			}
			m.stands(t)
			steps = steps[2:]
		}
		m.drain(t)
	})
}
