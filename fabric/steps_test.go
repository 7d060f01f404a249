package fabric

import (
	"bytes"
	"slices"
	"testing"

	"shunter/api"
	"shunter/node"
	"shunter/tree"
	"shunter/wire"
)

// steps are numbers in no simple order.
type steps uint64

func (s *steps) below(n int) int {
	*s = *s*6364136223846793005 + 1442695040888963407
	return int(*s>>33) % n
}

func randomPlan(s *steps) api.Plan {
	p := api.Plan{Lanes: 1 + s.below(3), Room: 1 + s.below(8), Queue: 1 + s.below(8), Rounds: 1 + s.below(4), Every: 1 + s.below(8), Bag: 1 + s.below(64), Start: uint16(s.below(65536))}
	if s.below(2) == 0 {
		p.Start = uint16(s.below(40)) - 20
	}
	for range p.Lanes {
		p.Weights = append(p.Weights, 1+s.below(5))
	}
	switch s.below(5) {
	case 0:
		return full(p, 2+s.below(5))
	case 1:
		return ring(p)
	}
	var parents []int
	for range 1 + s.below(5) {
		parents = append(parents, s.below(len(parents)+1))
	}
	p, _ = tree.Lay(p, parents)
	return p
}

// model is a fabric told in the chapter's words: nodes of its own, and rows of bytes for links.
type model struct {
	f     *Fabric
	p     api.Plan
	nodes []*node.Node
	hops  []api.Hop
	onWay [][][]byte
	ticks int
}

func modelOf(t *testing.T, p api.Plan) *model {
	t.Helper()
	m := &model{f: begun(t, p), p: p, hops: hopsOf(p)}
	m.onWay = make([][][]byte, len(m.hops))
	for v := range p.Nodes {
		m.nodes = append(m.nodes, node.New(p, v))
	}
	return m
}

func (m *model) isLink(h int) bool { return 0 <= h && h < len(m.hops) }

func (m *model) isFrame(h, k int) bool { return 0 <= k && k < len(m.onWay[h]) }

func (m *model) inject(t *testing.T, x api.Packet) api.Errno {
	t.Helper()
	want := api.ErrArg
	if 0 <= x.Src && x.Src < m.p.Nodes {
		want = m.nodes[x.Src].Inject(x)
	}
	wantInject(t, m.f, x, want)
	return want
}

func (m *model) deliver(t *testing.T, h, k int) api.Errno {
	t.Helper()
	want := m.delivered(h, k)
	wantDeliver(t, m.f, h, k, want)
	return want
}

func (m *model) delivered(h, k int) api.Errno {
	if !m.isLink(h) || !m.isFrame(h, k) {
		return api.ErrArg
	}
	b := m.onWay[h][k]
	m.onWay[h] = slices.Delete(m.onWay[h], k, k+1)
	return m.nodes[m.hops[h].To].Take(m.hops[h].From, b)
}

func (m *model) tick() {
	m.f.Tick()
	m.ticked()
}

func (m *model) ticked() {
	m.ticks++
	for v, n := range m.nodes {
		for _, out := range n.Tick() {
			m.send(slices.Index(m.hops, api.Hop{From: v, To: out.To}), out.B)
		}
	}
}

func (m *model) send(h int, b []byte) {
	if len(m.onWay[h]) < m.p.Bag {
		m.onWay[h] = append(m.onWay[h], bytes.Clone(b))
	}
}

func (m *model) round() {
	m.f.Round()
	m.ticked()
	for h := range m.hops {
		for len(m.onWay[h]) > 0 {
			m.delivered(h, 0)
		}
	}
}

// lay, lose, double and bend are what others do to a link that there is.
func (m *model) lay(h int, b []byte) {
	m.f.Link(h).Send(b)
	m.send(h, b)
}

func (m *model) lose(h, k int) {
	m.f.Link(h).Take(k)
	if m.isFrame(h, k) {
		m.onWay[h] = slices.Delete(m.onWay[h], k, k+1)
	}
}

func (m *model) double(h, k int) {
	m.f.Link(h).Twice(k)
	if m.isFrame(h, k) {
		m.send(h, m.onWay[h][k])
	}
}

func (m *model) bend(h, k, at int, x byte) {
	m.f.Link(h).Bend(k, at, x)
	if m.isFrame(h, k) && len(m.onWay[h][k]) > 0 && at >= 0 {
		m.onWay[h][k][at%len(m.onWay[h][k])] ^= x
	}
}

func (m *model) sameLinks(t *testing.T) {
	t.Helper()
	for h := range m.hops {
		wantOnLink(t, m.f, h, m.onWay[h]...)
	}
	if m.f.Ticks() != m.ticks {
		t.Fatalf("%d ticks, want %d", m.f.Ticks(), m.ticks)
	}
}

func (m *model) sameNodes(t *testing.T) {
	t.Helper()
	for v, n := range m.nodes {
		wantSameNode(t, m.p, v, m.f.Node(v), n)
		wantGot(t, m.f, v, n.Host().Got()...)
	}
}

// frame is one that may stand on a link, most of them such as its node takes.
func (m *model) frame(t *testing.T, s *steps, h int) []byte {
	hop, lane := m.hops[h], s.below(m.p.Lanes)
	r := m.nodes[hop.To].Receiver(portTo(m.p, hop.To, hop.From), lane)
	seq := uint16(r.Expects()) + uint16(s.below(10)) - 2
	switch s.below(4) {
	case 0:
		return encoded(t, api.Frame{Kind: api.Credit, Lane: uint8(s.below(3)), Seq: seq})
	case 1:
		return encoded(t, api.Frame{Kind: api.Resync, Lane: uint8(s.below(3)), Seq: seq})
	case 2:
		src := s.below(6)
		return encoded(t, data(lane, seq, src, (src+1+s.below(5))%6, uint32(s.below(1000))))
	}
	src := s.below(m.p.Nodes)
	return encoded(t, data(lane, seq, src, (src+1+s.below(m.p.Nodes-1))%m.p.Nodes, uint32(s.below(1000))))
}

func TestAgainstAModel(t *testing.T) {
	s, count := steps(17), map[api.Errno]int{}
	for range 300 {
		m := modelOf(t, randomPlan(&s))
		for i := range 200 {
			h := s.below(len(m.hops))
			k := s.below(len(m.onWay[h])+2) - 1
			switch s.below(16) {
			case 0, 1, 2, 3:
				count[m.inject(t, api.Packet{Src: s.below(m.p.Nodes), Dst: s.below(m.p.Nodes), Lane: s.below(m.p.Lanes), Body: uint32(i)})]++
			case 4:
				count[m.inject(t, api.Packet{Src: s.below(8) - 1, Dst: s.below(8) - 1, Lane: s.below(5) - 1, Body: uint32(i)})]++
			case 5, 6, 7:
				count[m.deliver(t, h, k)]++
			case 8:
				count[m.deliver(t, s.below(40)-5, k)]++
			case 9:
				m.lay(h, m.frame(t, &s, h))
				count[m.deliver(t, h, len(m.onWay[h])-1)]++
			case 10:
				m.lose(h, k)
			case 11:
				m.double(h, k)
			case 12:
				m.bend(h, k, s.below(30)-2, byte(s.below(256)))
			case 13:
				m.round()
			default:
				m.tick()
			}
			m.sameLinks(t)
			if i%10 == 9 {
				m.sameNodes(t)
			}
		}
	}
	for _, err := range []api.Errno{api.OK, api.ErrArg, api.ErrFrame, api.ErrStale, api.ErrOver, api.ErrBack} {
		if count[err] < 100 {
			t.Errorf("too few of an error: %v", count)
		}
	}
}

// FuzzSteps does any steps: a byte says what, and those behind it to whom, and how. Of what others lay on links some is a frame.
func FuzzSteps(f *testing.F) {
	f.Add(uint64(1), []byte{0, 0, 1, 0, 7, 0, 0, 0, 7, 0, 0, 0, 6, 0, 0, 0})
	f.Add(uint64(9), []byte{0, 1, 0, 0, 0, 1, 0, 1, 6, 0, 0, 0, 6, 0, 0, 0, 3, 0, 0, 0, 7, 0, 0, 0})
	f.Add(uint64(40), []byte{0, 0, 1, 0, 6, 0, 0, 0, 5, 0, 0, 7, 1, 0, 0, 0, 2, 1, 2, 3, 4, 0, 0, 0, 1, 0, 1, 0, 1, 200, 255, 0})
	f.Add(uint64(0), []byte{})
	f.Fuzz(func(t *testing.T, seed uint64, bytes []byte) {
		s := steps(seed)
		m := modelOf(t, randomPlan(&s))
		for four := range slices.Chunk(bytes[:len(bytes)/4*4], 4) {
			h, k := int(four[1])%len(m.hops), int(int8(four[2]))
			switch four[0] % 8 {
			case 0:
				m.inject(t, api.Packet{Src: int(int8(four[1])), Dst: int(int8(four[2])), Lane: int(int8(four[3])), Body: uint32(four[3])})
			case 1:
				m.deliver(t, int(int8(four[1])), k)
			case 2:
				b := four
				if g := data(int(four[1]%3), m.p.Start+uint16(k), int(four[3]%6), int(four[3]/6%6), 7); wire.Sound(g) {
					b = encoded(t, g)
				}
				m.lay(h, b)
			case 3:
				m.lose(h, k)
			case 4:
				m.double(h, k)
			case 5:
				m.bend(h, k, int(int8(four[3])), four[3])
			case 6:
				m.tick()
			default:
				m.round()
			}
			m.sameLinks(t)
		}
		m.sameNodes(t)
	})
}
