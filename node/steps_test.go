package node

import (
	"bytes"
	"slices"
	"testing"

	"shunter/api"
	"shunter/buffer"
	"shunter/credit"
	"shunter/host"
	"shunter/islip"
	"shunter/tree"
	"shunter/wire"
	"shunter/wrr"
)

// row is a packet that is in the rings, and in which queue.
type row struct {
	in, out, lane int
	x             api.Packet
}

// model is a node told in the chapter's words: one list of all that is in the rings, in the order in which it was pushed, and the parts of the layers below, each of its own.
type model struct {
	n         *Node
	p         api.Plan
	v         int
	near      []int
	host      *host.Host
	rows      []row
	senders   map[[2]int]*credit.Sender
	receivers map[[2]int]*buffer.Receiver
	arbiter   *islip.Arbiter
	wheels    []*wrr.Wheel
	ticks     int
}

func modelOf(t *testing.T, p api.Plan, v int) *model {
	t.Helper()
	m := &model{n: begun(t, p, v), p: p, v: v, near: beside(p, v), host: host.New(p.Lanes, p.Queue)}
	m.senders, m.receivers = map[[2]int]*credit.Sender{}, map[[2]int]*buffer.Receiver{}
	m.arbiter = islip.New(m.ports())
	for port := range m.ports() {
		m.wheels = append(m.wheels, wrr.New(p.Weights))
		for lane := range p.Lanes {
			if port > 0 {
				m.senders[[2]int{port, lane}] = credit.New(uint64(p.Start), p.Room)
				m.receivers[[2]int{port, lane}] = buffer.New(uint64(p.Start), p.Room)
			}
		}
	}
	return m
}

func (m *model) ports() int { return len(m.near) + 1 }

func (m *model) isNode(d int) bool { return 0 <= d && d < m.p.Nodes }

// of is what is in the rings of which something is so.
func (m *model) of(is func(r row) bool) []row {
	return slices.DeleteFunc(slices.Clone(m.rows), func(r row) bool { return !is(r) })
}

func (m *model) queue(in, out, lane int) []api.Packet {
	var all []api.Packet
	for _, r := range m.of(func(r row) bool { return r.in == in && r.out == out && r.lane == lane }) {
		all = append(all, r.x)
	}
	return all
}

func (m *model) inject(t *testing.T, x api.Packet) api.Errno {
	t.Helper()
	want := api.ErrArg
	if x.Src == m.v && x.Dst != m.v && m.isNode(x.Dst) {
		want = m.host.Put(x)
	}
	wantInject(t, m.n, x, want)
	return want
}

func (m *model) take(t *testing.T, from int, b []byte) api.Errno {
	t.Helper()
	want, before := m.taken(from, b), slices.Clone(b)
	if got := m.n.Take(from, b); got != want {
		t.Fatalf("Take(%d, %x) = %d, want %d", from, b, got, want)
	}
	if !bytes.Equal(b, before) {
		t.Fatalf("bytes are %x, they were %x", b, before)
	}
	return want
}

func (m *model) taken(from int, b []byte) api.Errno {
	at := slices.Index(m.near, from)
	if at < 0 {
		return api.ErrArg
	}
	f, err := wire.Decode(b)
	if err != api.OK {
		return err
	}
	lane := int(f.Lane)
	if lane >= m.p.Lanes {
		return api.ErrFrame
	}
	end := [2]int{at + 1, lane}
	if f.Kind == api.Credit {
		m.senders[end].Hear(f.Seq)
		return api.OK
	}
	if f.Kind == api.Resync {
		m.receivers[end].Hear(f.Seq)
		return api.OK
	}
	x := api.Packet{Src: int(f.Src), Dst: int(f.Dst), Lane: lane, Body: f.Body}
	if !m.isNode(x.Src) || !m.isNode(x.Dst) {
		return api.ErrFrame
	}
	err = m.receivers[end].Come(f.Seq)
	if err == api.OK {
		m.rows = append(m.rows, row{at + 1, portOf(m.p, m.v, x.Dst), lane, x})
	}
	return err
}

// may are the lanes in which something may go from an input to an output.
func (m *model) may(in, out int) []int {
	var lanes []int
	for lane := range m.p.Lanes {
		if len(m.queue(in, out, lane)) > 0 && (out == 0 || m.senders[[2]int{out, lane}].Usable() > 0) {
			lanes = append(lanes, lane)
		}
	}
	return lanes
}

func maskOf(all []int) uint16 {
	m := uint16(0)
	for _, i := range all {
		m += 1 << i
	}
	return m
}

// matched are all inputs' outputs.
func (m *model) matched() []int {
	asks := make([]uint16, m.ports())
	for in := range asks {
		var outs []int
		for out := range m.ports() {
			if len(m.may(in, out)) > 0 {
				outs = append(outs, out)
			}
		}
		asks[in] = maskOf(outs)
	}
	return m.arbiter.Run(asks, m.p.Rounds)
}

func (m *model) tick(t *testing.T) []Out {
	t.Helper()
	var want []going
	for lane := range m.p.Lanes {
		if len(m.of(func(r row) bool { return r.in == 0 && r.lane == lane })) < m.p.Room {
			if x, ok := m.host.Next(lane); ok {
				m.rows = append(m.rows, row{0, portOf(m.p, m.v, x.Dst), lane, x})
			}
		}
	}
	for in, out := range m.matched() {
		if out < 0 {
			continue
		}
		lane := m.wheels[out].Pick(maskOf(m.may(in, out)))
		at := slices.IndexFunc(m.rows, func(r row) bool { return r.in == in && r.out == out && r.lane == lane })
		x := m.rows[at].x
		m.rows = slices.Delete(m.rows, at, at+1)
		if in > 0 && !m.receivers[[2]int{in, lane}].Free() {
			t.Fatalf("from port %d comes what its receiver does not hold", in)
		}
		if out == 0 {
			m.host.Eject(x)
			continue
		}
		seq, _ := m.senders[[2]int{out, lane}].Next()
		want = append(want, going{m.near[out-1], data(uint8(lane), uint16(seq), uint8(x.Src), uint8(x.Dst), x.Body)})
	}
	m.ticks++
	if m.ticks%m.p.Every == 0 {
		want = append(want, m.exchanged()...)
	}
	outs := m.n.Tick()
	if got := frames(t, outs); !slices.Equal(got, want) {
		t.Fatalf("node %d, tick %d: %+v, want %+v", m.v, m.ticks, got, want)
	}
	return outs
}

func (m *model) exchanged() []going {
	var all []going
	for i, to := range m.near {
		for lane := range m.p.Lanes {
			end := [2]int{i + 1, lane}
			all = append(all, going{to, resyncOf(uint8(lane), uint16(m.senders[end].Sent()))}, going{to, creditOf(uint8(lane), uint16(m.receivers[end].Limit()))})
		}
	}
	return all
}

// stands holds behind any steps: all parts are the model's, and in no lane is more than its room.
func (m *model) stands(t *testing.T) {
	t.Helper()
	for port := range m.ports() {
		for lane := range m.p.Lanes {
			all := m.of(func(r row) bool { return r.in == port && r.lane == lane })
			if len(all) > m.p.Room {
				t.Fatalf("from port %d, in lane %d: %d packets, the room is %d", port, lane, len(all), m.p.Room)
			}
			if port == 0 {
				continue
			}
			end := [2]int{port, lane}
			if s := m.n.Sender(port, lane); *s != *m.senders[end] {
				t.Fatalf("port %d, lane %d: it has sent %d, and may send %d, want %d, %d", port, lane, s.Sent(), s.Usable(), m.senders[end].Sent(), m.senders[end].Usable())
			}
			if r := m.n.Receiver(port, lane); *r != *m.receivers[end] || r.Held() != len(all) {
				t.Fatalf("port %d, lane %d: it expects %d, and holds %d, want %d, %d", port, lane, r.Expects(), r.Held(), m.receivers[end].Expects(), len(all))
			}
		}
	}
	m.sameQueues(t)
}

func (m *model) sameQueues(t *testing.T) {
	t.Helper()
	for in := range m.ports() {
		for out := range m.ports() {
			for lane := range m.p.Lanes {
				wantQueue(t, m.n, in, out, lane, m.queue(in, out, lane)...)
			}
		}
	}
	for lane := range m.p.Lanes {
		if got, want := m.n.Host().Waits(lane), m.host.Waits(lane); got != want {
			t.Fatalf("lane %d: %d wait, want %d", lane, got, want)
		}
	}
	wantGot(t, m.n, m.host.Got()...)
}

// steps are numbers in no simple order.
type steps uint64

func (s *steps) below(n int) int {
	*s = *s*6364136223846793005 + 1442695040888963407
	return int(*s>>33) % n
}

// frameTo is a frame that a node may be sent, most of them such as it takes.
func (m *model) frameTo(s *steps, port int, body uint32) api.Frame {
	lane := s.below(m.p.Lanes)
	end := [2]int{port, lane}
	src := s.below(m.p.Nodes)
	dst := (src + 1 + s.below(m.p.Nodes-1)) % m.p.Nodes
	r, sender := m.receivers[end], m.senders[end]
	f := data(uint8(lane), uint16(r.Expects()), uint8(src), uint8(dst), body)
	switch s.below(12) {
	case 0, 1:
		f = creditOf(f.Lane, uint16(sender.Sent())+uint16(s.below(m.p.Room+1)))
	case 2:
		f = resyncOf(f.Lane, uint16(r.Expects())+uint16(s.below(3)))
	case 3:
		f.Seq += uint16(s.below(12)) - 3
	case 4:
		f.Seq = uint16(s.below(65536))
	case 5:
		f.Lane, f.Dst = uint8(s.below(3)), uint8(int(f.Src)+1+s.below(5))%6
	}
	return f
}

func randomPlan(s *steps) api.Plan {
	p := api.Plan{Lanes: 1 + s.below(3), Room: 1 + s.below(8), Queue: 1 + s.below(8), Rounds: 1 + s.below(4), Every: 1 + s.below(8), Bag: 1 + s.below(64), Start: uint16(s.below(65536))}
	if s.below(2) == 0 {
		p.Start = uint16(s.below(40)) - 20
	}
	for range p.Lanes {
		p.Weights = append(p.Weights, 1+s.below(5))
	}
	switch s.below(5) {
	case 0:
		return full(p, 2+s.below(5))
	case 1:
		return ring(p)
	}
	var parents []int
	for range 1 + s.below(5) {
		parents = append(parents, s.below(len(parents)+1))
	}
	p, _ = tree.Lay(p, parents)
	return p
}

func TestAgainstAModel(t *testing.T) {
	s, count := steps(16), map[api.Errno]int{}
	for range 400 {
		p := randomPlan(&s)
		m := modelOf(t, p, s.below(p.Nodes))
		busy := 1 + s.below(12)
		for i := range 250 {
			port := 1 + s.below(len(m.near))
			switch s.below(16) {
			case 0, 1, 2:
				x := api.Packet{Src: m.v, Dst: s.below(p.Nodes), Lane: s.below(p.Lanes), Body: uint32(i)}
				count[m.inject(t, x)]++
			case 3:
				x := api.Packet{Src: s.below(8) - 1, Dst: s.below(8) - 1, Lane: s.below(5) - 1, Body: uint32(i)}
				count[m.inject(t, x)]++
			case 4:
				b := encoded(t, m.frameTo(&s, port, uint32(i)))
				b[s.below(len(b))] ^= byte(s.below(256))
				count[m.take(t, s.below(8)-1, b)]++
			case 5, 6, 7, 8, 9:
				count[m.take(t, m.near[port-1], encoded(t, m.frameTo(&s, port, uint32(i))))]++
			default:
				if s.below(busy) < 4 {
					m.tick(t)
				}
			}
			m.stands(t)
		}
	}
	for _, err := range []api.Errno{api.OK, api.ErrArg, api.ErrFrame, api.ErrStale, api.ErrOver, api.ErrBack} {
		if count[err] < 200 {
			t.Errorf("too few of an error: %v", count)
		}
	}
}

// FuzzSteps does any steps: a byte says what, and those behind it to whom, and how; a frame's check is laid for it.
func FuzzSteps(f *testing.F) {
	f.Add(uint64(1), []byte{0, 1, 0, 0, 9, 0, 1, 0, 1, 0, 0, 0, 9, 0, 0, 0, 9, 0, 0, 0})
	f.Add(uint64(5), []byte{1, 1, 1, 0, 1, 0, 2, 0, 1, 2, 2, 0, 9, 0, 0, 0})
	f.Add(uint64(77), []byte{3, 1, 12, 200, 3, 0, 6, 1, 2, 0, 1, 5, 4, 4, 4, 4})
	f.Add(uint64(0), []byte{})
	f.Fuzz(func(t *testing.T, seed uint64, bytes []byte) {
		s := steps(seed)
		p := randomPlan(&s)
		m := modelOf(t, p, s.below(p.Nodes))
		for two := range slices.Chunk(bytes[:len(bytes)/4*4], 4) {
			switch two[0] % 5 {
			case 0:
				m.inject(t, api.Packet{Src: m.v, Dst: int(int8(two[1])), Lane: int(int8(two[2])), Body: uint32(two[3])})
			case 1:
				g := data(two[2]%3, p.Start+uint16(int8(two[3])), two[1]%6, (two[1]%6+1+two[1]/6%5)%6, 7)
				m.take(t, int(two[0]/5)-1, encoded(t, g))
			case 2:
				m.take(t, int(two[0]/5)-1, encoded(t, creditOf(two[2]%3, p.Start+uint16(int8(two[3])))))
			case 3:
				m.take(t, int(two[0]/5)-1, encoded(t, resyncOf(two[2]%3, p.Start+uint16(int8(two[3])))))
			default:
				m.take(t, m.near[0], two)
				m.tick(t)
			}
			m.stands(t)
		}
	})
}
