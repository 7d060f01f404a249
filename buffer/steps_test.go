package buffer

import (
	"testing"

	"shunter/api"
	"shunter/credit"
)

// model holds a receiver against what the words ask of it, step by step.
type model struct {
	r     *Receiver
	next  uint64
	room  int
	held  int
	limit uint64
	came  map[uint64]int
}

func modelOf(t *testing.T, next uint64, room int) *model {
	t.Helper()
	return &model{r: begun(t, next, room), next: next, room: room, limit: next + uint64(room), came: map[uint64]int{}}
}

func (m *model) come(t *testing.T, seq uint16) {
	t.Helper()
	n, want := comes(m.next, m.limit, seq)
	if got := m.r.Come(seq); got != want {
		t.Fatalf("Expects %d, Limit %d: Come(%d) = %d, want %d", m.next, m.limit, seq, got, want)
	}
	if want == api.OK {
		m.next, m.held = n+1, m.held+1
		m.came[n]++
		if m.came[n] > 1 {
			t.Fatalf("%d came twice", n)
		}
	}
	m.stands(t)
}

func (m *model) free(t *testing.T) {
	t.Helper()
	want := m.held > 0
	if got := m.r.Free(); got != want {
		t.Fatalf("Held %d: Free = %v", m.held, got)
	}
	if want {
		m.held--
	}
	m.stands(t)
}

func (m *model) hear(t *testing.T, sent uint16) {
	t.Helper()
	n, want := hears(m.next, m.limit, sent)
	if got := m.r.Hear(sent); got != want {
		t.Fatalf("Expects %d, Limit %d: Hear(%d) = %v, want %v", m.next, m.limit, sent, got, want)
	}
	if want {
		m.next = n
	}
	m.stands(t)
}

// stands holds for any steps: the limit never falls, and no more is held than there is room for.
func (m *model) stands(t *testing.T) {
	t.Helper()
	was := m.limit
	m.limit = m.next + uint64(m.room) - uint64(m.held)
	wantStands(t, "behind a step", m.r, m.next, m.held, m.limit)
	if m.r.Limit() < was || m.r.Held() < 0 || m.r.Held() > m.room || m.r.Limit() < m.r.Expects() {
		t.Fatalf("Limit was %d, is %d, Expects %d, Held %d of %d", was, m.r.Limit(), m.r.Expects(), m.r.Held(), m.room)
	}
}

// near is a number near the one that is expected, mostly.
func near(x uint32, next uint64) uint16 {
	if x>>27&3 != 0 {
		return uint16(next - 6 + uint64((x>>8)%18))
	}
	return uint16(x >> 4)
}

func TestAgainstAModel(t *testing.T) {
	for seed, next := range beginnings {
		for room := 1; room <= 8; room++ {
			m := modelOf(t, next, room)
			x := uint32(seed*8 + room)
			for range 2000 {
				x = x*1664525 + 1013904223
				switch x >> 30 {
				case 0:
					m.hear(t, near(x, m.next))
				case 1:
					m.come(t, near(x, m.next))
				default:
					m.free(t)
					m.come(t, uint16(m.next))
				}
			}
		}
	}
}

// FuzzSteps does any steps, three bytes each: what to do, and a short number.
func FuzzSteps(f *testing.F) {
	f.Add(uint64(10), 2, []byte{0, 0, 11, 0, 0, 10, 0, 0, 13, 2, 0, 13, 1, 0, 0, 1, 0, 0})
	f.Add(uint64(0), 1, []byte{0, 255, 255, 2, 128, 0, 0, 0, 0, 1, 0, 0})
	f.Add(uint64(1<<62-1), 8, []byte{2, 0, 7, 0, 0, 14, 0, 0, 7})
	f.Add(uint64(1<<62), 8, []byte{0, 0, 1})
	f.Add(uint64(5), 9, []byte{0, 0, 1})
	f.Fuzz(func(t *testing.T, next uint64, room int, steps []byte) {
		r := New(next, room)
		if may := next < 1<<62 && room >= 1 && room <= 8; may != (r != nil) {
			t.Fatalf("New(%d, %d): there is one: %v, want %v", next, room, r != nil, may)
		}
		if r == nil {
			return
		}
		m := modelOf(t, next, room)
		for ; len(steps) >= 3; steps = steps[3:] {
			short := uint16(steps[1])<<8 | uint16(steps[2])
			switch steps[0] % 3 {
			case 0:
				m.come(t, short)
			case 1:
				m.free(t)
			default:
				m.hear(t, short)
			}
		}
	})
}

// lane is a sender and a receiver, with the blocks that are on their way between them, and the limits that were told last: any of them may be lost, or come late, or twice.
type lane struct {
	s      *credit.Sender
	r      *Receiver
	blocks []uint64
	came   map[uint64]int
	limits []uint64
}

func laneOf(t *testing.T, start uint64, room int) *lane {
	t.Helper()
	s := credit.New(start, room)
	if s == nil {
		t.Fatalf("credit.New(%d, %d) = nil", start, room)
	}
	return &lane{s: s, r: begun(t, start, room), came: map[uint64]int{}}
}

// deliver lets any one of the blocks come that are on their way: those that it overtakes are late.
func (l *lane) deliver(t *testing.T, at int, twice bool) {
	t.Helper()
	if len(l.blocks) == 0 {
		return
	}
	at %= len(l.blocks)
	n := l.blocks[at]
	if !twice {
		l.blocks = append(l.blocks[:at], l.blocks[at+1:]...)
	}
	switch e := l.r.Come(uint16(n)); e {
	case api.OK:
		l.came[n]++
		if l.came[n] > 1 {
			t.Fatalf("%d came twice", n)
		}
	case api.ErrStale:
	default:
		t.Fatalf("Expects %d, Held %d, Limit %d: %d, which was sent, is refused: %d", l.r.Expects(), l.r.Held(), l.r.Limit(), n, e)
	}
}

func (l *lane) send() {
	if n, may := l.s.Next(); may {
		l.blocks = append(l.blocks, n)
	}
}

// tell tells a limit that was so, some time ago.
func (l *lane) tell(back int) {
	l.limits = append(l.limits, l.r.Limit())
	if len(l.limits) > 5 {
		l.limits = l.limits[1:]
	}
	l.s.Hear(uint16(l.limits[len(l.limits)-1-back%len(l.limits)]))
}

// bounds are what holds behind any steps: a sender knows of no limit that is not there, and room is never overrun.
func (l *lane) bounds(t *testing.T, room int) {
	t.Helper()
	if l.s.Limit() > l.r.Limit() || l.r.Expects() > l.s.Sent() || l.r.Held() > room {
		t.Fatalf("Sent %d, the sender's Limit %d; Expects %d, Held %d of %d, Limit %d", l.s.Sent(), l.s.Limit(), l.r.Expects(), l.r.Held(), room, l.r.Limit())
	}
}

// TestWhatIsSentFindsRoom: whatever is lost, late, or doubled, no block of a sender that heard the limits is refused for lack of room, and behind one exchange with nothing on its way all of the room is there again.
func TestWhatIsSentFindsRoom(t *testing.T) {
	for seed, start := range beginnings {
		for room := 1; room <= 8; room++ {
			l := laneOf(t, start, room)
			x := uint32(seed*8 + room)
			for range 3000 {
				x = x*1664525 + 1013904223
				l.step(t, x)
				l.bounds(t, room)
			}
			if l.s.Sent() < start+100 {
				t.Fatalf("only %d blocks were sent", l.s.Sent()-start)
			}
			l.allThere(t, room)
		}
	}
}

func (l *lane) step(t *testing.T, x uint32) {
	t.Helper()
	at := int(x >> 8 & 255)
	switch x >> 28 {
	case 0:
		l.r.Hear(uint16(l.s.Sent()))
	case 1:
		if len(l.blocks) > 0 {
			l.blocks = l.blocks[1:]
		}
	case 2:
		l.deliver(t, at, true)
	case 3, 4, 5:
		l.deliver(t, at, false)
	case 6, 7, 8:
		l.r.Free()
	case 9, 10, 11:
		l.tell(at)
	default:
		l.send()
	}
}

// allThere empties the lane, loses what is on its way, and exchanges once.
func (l *lane) allThere(t *testing.T, room int) {
	t.Helper()
	l.blocks = nil
	for l.r.Free() {
	}
	l.r.Hear(uint16(l.s.Sent()))
	l.s.Hear(uint16(l.r.Limit()))
	wantStands(t, "all is exchanged", l.r, l.s.Sent(), 0, l.s.Sent()+uint64(room))
	if l.s.Usable() != room {
		t.Fatalf("all is exchanged: Usable %d, want %d", l.s.Usable(), room)
	}
}
