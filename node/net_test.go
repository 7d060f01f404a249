package node

import (
	"slices"
	"testing"

	"shunter/api"
	"shunter/buffer"
	"shunter/credit"
	"shunter/route"
	"shunter/serial"
	"shunter/wire"
)

// net is all nodes of a plan, with what is on its way between each two of them.
type net struct {
	p      api.Plan
	nodes  []*Node
	onWay  map[api.Hop][][]byte
	sent   map[api.Flow][]uint32
	ticked int
}

func netOf(t *testing.T, p api.Plan) *net {
	t.Helper()
	n := &net{p: p, onWay: map[api.Hop][][]byte{}, sent: map[api.Flow][]uint32{}}
	for v := range p.Nodes {
		n.nodes = append(n.nodes, begun(t, p, v))
	}
	return n
}

// hops are all links, in order.
func (n *net) hops() []api.Hop {
	var all []api.Hop
	for v := range n.p.Nodes {
		for _, w := range beside(n.p, v) {
			all = append(all, api.Hop{From: v, To: w})
		}
	}
	return all
}

// ends are those of a lane of a link.
func (n *net) ends(hop api.Hop, lane int) (*credit.Sender, *buffer.Receiver) {
	out := 1 + slices.Index(beside(n.p, hop.From), hop.To)
	in := 1 + slices.Index(beside(n.p, hop.To), hop.From)
	return n.nodes[hop.From].Sender(out, lane), n.nodes[hop.To].Receiver(in, lane)
}

// inject gives each packet a body of its own.
func (n *net) inject(x api.Packet) {
	flow := api.Flow{Src: x.Src, Dst: x.Dst, Lane: x.Lane}
	x.Body = uint32(len(n.sent[flow]))
	if n.nodes[x.Src].Inject(x) == api.OK {
		n.sent[flow] = append(n.sent[flow], x.Body)
	}
}

// fill injects as much as all hosts take, from each to each, in each lane.
func (n *net) fill(s *steps) {
	for v := range n.p.Nodes {
		for lane := range n.p.Lanes {
			for range n.p.Queue {
				n.inject(api.Packet{Src: v, Dst: (v + 1 + s.below(n.p.Nodes-1)) % n.p.Nodes, Lane: lane})
			}
		}
	}
}

// tick lays what goes out on the links; what has no room is lost.
func (n *net) tick(t *testing.T) {
	t.Helper()
	n.ticked++
	for v, node := range n.nodes {
		for _, out := range node.Tick() {
			hop := api.Hop{From: v, To: out.To}
			if len(n.onWay[hop]) < n.p.Bag {
				n.onWay[hop] = append(n.onWay[hop], out.B)
			}
		}
	}
	n.stands(t)
}

// deliver takes the k-th that is on a link to its end. What was not bent is never refused for want of room, and is a frame that may be there.
func (n *net) deliver(t *testing.T, hop api.Hop, k int) api.Errno {
	t.Helper()
	b := n.onWay[hop][k]
	n.onWay[hop] = slices.Delete(n.onWay[hop], k, k+1)
	err := n.nodes[hop.To].Take(hop.From, b)
	if err == api.ErrOver || err == api.ErrArg || err == api.ErrFrame {
		t.Fatalf("%v: Take of %x = %d", hop, b, err)
	}
	return err
}

// round is a tick, and then all comes that is on its way.
func (n *net) round(t *testing.T) {
	t.Helper()
	n.tick(t)
	for _, hop := range n.hops() {
		for len(n.onWay[hop]) > 0 {
			n.deliver(t, hop, 0)
		}
	}
	n.stands(t)
}

// account is where the blocks of a lane of a link are.
func (n *net) account(hop api.Hop, lane int) api.Account {
	s, r := n.ends(hop, lane)
	flying := map[uint64]bool{}
	for _, b := range n.onWay[hop] {
		f, err := wire.Decode(b)
		if seq := serial.Widen(r.Expects(), f.Seq); err == api.OK && f.Kind == api.Data && int(f.Lane) == lane && seq >= r.Expects() && seq < s.Sent() {
			flying[seq] = true
		}
	}
	return api.Account{
		Usable: s.Usable(),
		Late:   int(r.Limit() - s.Limit()),
		Flying: len(flying),
		Held:   r.Held(),
		Lost:   int(s.Sent()-r.Expects()) - len(flying),
	}
}

// stands holds behind any steps: all blocks of each lane are accounted for, and nobody holds more than its room.
func (n *net) stands(t *testing.T) {
	t.Helper()
	for _, hop := range n.hops() {
		for lane := range n.p.Lanes {
			a := n.account(hop, lane)
			if min(a.Usable, a.Late, a.Flying, a.Held, a.Lost) < 0 || a.Usable+a.Late+a.Flying+a.Held+a.Lost != n.p.Room {
				t.Fatalf("tick %d, %v, lane %d: %+v, the room is %d", n.ticked, hop, lane, a, n.p.Room)
			}
		}
	}
}

// inside is how many packets wait, or are in rings.
func (n *net) inside() int {
	all := 0
	for v, node := range n.nodes {
		ports := len(beside(n.p, v)) + 1
		for lane := range n.p.Lanes {
			all += node.Host().Waits(lane)
			for in := range ports {
				for out := range ports {
					all += node.Rings().Len(in, out, lane)
				}
			}
		}
	}
	return all
}

// came are, by flows, what came, each at its own node.
func (n *net) came(t *testing.T) map[api.Flow][]uint32 {
	t.Helper()
	all := map[api.Flow][]uint32{}
	for v, node := range n.nodes {
		for _, x := range node.Host().Got() {
			if x.Dst != v {
				t.Fatalf("%v came to %d", x, v)
			}
			flow := api.Flow{Src: x.Src, Dst: x.Dst, Lane: x.Lane}
			all[flow] = append(all[flow], x.Body)
		}
	}
	return all
}

// wantSome says that of each flow came some of what was injected, in order; bodies rise there, each once.
func (n *net) wantSome(t *testing.T) {
	t.Helper()
	for flow, bodies := range n.came(t) {
		last := -1
		for _, body := range bodies {
			if int(body) <= last || int(body) >= len(n.sent[flow]) {
				t.Fatalf("%v: %v came, %d were injected", flow, bodies, len(n.sent[flow]))
			}
			last = int(body)
		}
	}
}

func (n *net) wantAll(t *testing.T) {
	t.Helper()
	came := n.came(t)
	for flow, bodies := range n.sent {
		if !slices.Equal(came[flow], bodies) {
			t.Fatalf("%v: %v came, want %v", flow, came[flow], bodies)
		}
	}
	n.wantSome(t)
}

// moves is how many there could be: each packet is let in, goes over each link of its way, and out.
func (n *net) moves() int {
	all := 0
	for flow, bodies := range n.sent {
		all += len(bodies) * (len(route.Path(n.p, flow.Src, flow.Dst)) + 1)
	}
	return all
}

// drain goes on for as many rounds as there could be moves, each of which may have to wait for an exchange, and another one where something was lost.
func (n *net) drain(t *testing.T) {
	t.Helper()
	for rounds := (n.moves() + 2) * 3 * (n.p.Every + 1); n.inside() > 0; rounds-- {
		if rounds == 0 {
			t.Fatalf("%+v: %d are inside yet", n.p, n.inside())
		}
		n.round(t)
	}
}

// exchange goes on until each node has told each other one three times where its ends stand.
func (n *net) exchange(t *testing.T) {
	t.Helper()
	for range 3 * n.p.Every {
		n.round(t)
	}
}

// wantNothingOut says that no block is anywhere, and all that may be sent is known.
func (n *net) wantNothingOut(t *testing.T) {
	t.Helper()
	for _, hop := range n.hops() {
		for lane := range n.p.Lanes {
			if a := n.account(hop, lane); a != (api.Account{Usable: n.p.Room}) {
				t.Fatalf("%v, lane %d: %+v, the room is %d", hop, lane, a, n.p.Room)
			}
		}
	}
}

// enough is a bag in which the frames of two ticks find room: nothing is lost for want of it.
const enough = 64

// TestAllComes where nothing is lost.
func TestAllComes(t *testing.T) {
	s := steps(3)
	for i := range 120 {
		p := randomPlan(&s)
		if i < len(plans(t)) {
			p = plans(t)[i]
		}
		p.Bag = enough
		n := netOf(t, p)
		for range 40 {
			n.fill(&s)
			n.round(t)
		}
		n.wantSome(t)
		n.drain(t)
		n.wantAll(t)
		n.exchange(t)
		n.wantNothingOut(t)
	}
}

// befall does to what is on a link what links may do: it is lost, comes twice, comes late, or bent.
func (n *net) befall(t *testing.T, s *steps, hop api.Hop, lossy int) {
	t.Helper()
	for range len(n.onWay[hop]) {
		row := n.onWay[hop]
		if len(row) == 0 {
			return
		}
		k := s.below(len(row))
		switch s.below(lossy) {
		case 0:
			n.onWay[hop] = slices.Delete(row, k, k+1)
		case 1:
			if len(row) < n.p.Bag {
				n.onWay[hop] = append(row, slices.Clone(row[k]))
			}
		case 2:
			b := slices.Clone(row[k])
			b[s.below(len(b))] ^= byte(1 + s.below(255))
			n.onWay[hop] = slices.Delete(row, k, k+1)
			if err := n.nodes[hop.To].Take(hop.From, b); err != api.ErrFrame {
				t.Fatalf("Take of a bent frame = %d", err)
			}
		case 3:
			n.deliver(t, hop, k)
		default:
			n.deliver(t, hop, 0)
		}
	}
}

// TestLinksThatLose: in what comes there is nothing that was not sent, and behind a few exchanges nothing is lost of what may be sent.
func TestLinksThatLose(t *testing.T) {
	s, lost := steps(4), 0
	for range 250 {
		n := netOf(t, randomPlan(&s))
		lossy := 4 + s.below(12)
		for range 60 {
			if s.below(3) == 0 {
				n.fill(&s)
			}
			n.tick(t)
			for _, hop := range n.hops() {
				n.befall(t, &s, hop, lossy)
			}
			n.stands(t)
		}
		n.p.Bag = enough
		n.wantSome(t)
		n.round(t)
		n.drain(t)
		n.exchange(t)
		n.wantNothingOut(t)
		n.wantSome(t)
		for flow, bodies := range n.sent {
			lost += len(bodies) - len(n.came(t)[flow])
		}
		n.sent = map[api.Flow][]uint32{}
		n.again(t, &s)
	}
	if lost == 0 {
		t.Error("nothing was lost")
	}
}

// again injects once more, in a net in which all is found again, and looks that all of it comes.
func (n *net) again(t *testing.T, s *steps) {
	t.Helper()
	before := n.came(t)
	n.fill(s)
	n.drain(t)
	came := n.came(t)
	for flow, bodies := range n.sent {
		if !slices.Equal(came[flow][len(before[flow]):], bodies) {
			t.Fatalf("%v: %v came, want %v", flow, came[flow][len(before[flow]):], bodies)
		}
	}
}
