package fabric

import (
	"slices"
	"testing"

	"shunter/api"
	"shunter/route"
	"shunter/serial"
	"shunter/wire"
)

// enough is a bag in which all that goes out in two ticks finds room: nothing is lost for want of it.
const enough = 14

// net is a fabric, with what was injected into it, and what was taken from its links.
type net struct {
	*Fabric
	p    api.Plan
	hops []api.Hop
	sent map[api.Flow][]uint32
}

func netOf(t *testing.T, p api.Plan) *net {
	t.Helper()
	return &net{Fabric: begun(t, p), p: p, hops: hopsOf(p), sent: map[api.Flow][]uint32{}}
}

// inject gives each packet of a flow a body of its own.
func (n *net) inject(x api.Packet) {
	flow := api.Flow{Src: x.Src, Dst: x.Dst, Lane: x.Lane}
	x.Body = uint32(len(n.sent[flow]))
	if n.Inject(x) == api.OK {
		n.sent[flow] = append(n.sent[flow], x.Body)
	}
}

// fill injects as much as all hosts take.
func (n *net) fill(s *steps) {
	for v := range n.p.Nodes {
		for lane := range n.p.Lanes {
			for range n.p.Queue {
				n.inject(api.Packet{Src: v, Dst: (v + 1 + s.below(n.p.Nodes-1)) % n.p.Nodes, Lane: lane})
			}
		}
	}
}

// account is where the blocks of a lane of a link are.
func account(f *Fabric, hop api.Hop, lane int) api.Account {
	p := f.Plan()
	s := f.Node(hop.From).Sender(portTo(p, hop.From, hop.To), lane)
	r := f.Node(hop.To).Receiver(portTo(p, hop.To, hop.From), lane)
	flying := map[uint64]bool{}
	for _, b := range f.Link(slices.Index(f.Hops(), hop)).All() {
		g, err := wire.Decode(b)
		if seq := serial.Widen(r.Expects(), g.Seq); err == api.OK && g.Kind == api.Data && int(g.Lane) == lane && seq >= r.Expects() && seq < s.Sent() {
			flying[seq] = true
		}
	}
	return api.Account{
		Usable: s.Usable(),
		Late:   int(r.Limit() - s.Limit()),
		Flying: len(flying),
		Held:   r.Held(),
		Lost:   int(s.Sent()-r.Expects()) - len(flying),
	}
}

func wantAccount(t *testing.T, f *Fabric, hop api.Hop, lane int, want api.Account) {
	t.Helper()
	if got := account(f, hop, lane); got != want {
		t.Fatalf("%v, lane %d: %+v, want %+v", hop, lane, got, want)
	}
}

// stands holds behind any steps: all blocks of each lane are accounted for, and nobody holds more than its room.
func (n *net) stands(t *testing.T) {
	t.Helper()
	for _, hop := range n.hops {
		for lane := range n.p.Lanes {
			a := account(n.Fabric, hop, lane)
			if min(a.Usable, a.Late, a.Flying, a.Held, a.Lost) < 0 || a.Usable+a.Late+a.Flying+a.Held+a.Lost != n.p.Room {
				t.Fatalf("tick %d, %v, lane %d: %+v, the room is %d", n.Ticks(), hop, lane, a, n.p.Room)
			}
		}
	}
}

// wantNothingOut says that no block is anywhere, and all that may be sent is known.
func (n *net) wantNothingOut(t *testing.T) {
	t.Helper()
	for _, hop := range n.hops {
		for lane := range n.p.Lanes {
			wantAccount(t, n.Fabric, hop, lane, api.Account{Usable: n.p.Room})
		}
	}
}

// inside is how many packets wait, or are in rings.
func (n *net) inside() int {
	all := 0
	for v := range n.p.Nodes {
		ports := len(beside(n.p, v)) + 1
		for lane := range n.p.Lanes {
			all += n.Node(v).Host().Waits(lane)
			for in := range ports {
				for out := range ports {
					all += n.Node(v).Rings().Len(in, out, lane)
				}
			}
		}
	}
	return all
}

// came are, by flows, what came, each at its own node.
func (n *net) came(t *testing.T) map[api.Flow][]uint32 {
	t.Helper()
	all := map[api.Flow][]uint32{}
	for v := range n.p.Nodes {
		for _, x := range n.Got(v) {
			if x.Dst != v {
				t.Fatalf("%v came to %d", x, v)
			}
			flow := api.Flow{Src: x.Src, Dst: x.Dst, Lane: x.Lane}
			all[flow] = append(all[flow], x.Body)
		}
	}
	return all
}

// wantSome says that of each flow came some of what was injected, in order; bodies rise there, each once.
func (n *net) wantSome(t *testing.T) {
	t.Helper()
	for flow, bodies := range n.came(t) {
		last := -1
		for _, body := range bodies {
			if int(body) <= last || int(body) >= len(n.sent[flow]) {
				t.Fatalf("%v: %v came, %d were injected", flow, bodies, len(n.sent[flow]))
			}
			last = int(body)
		}
	}
}

// wantAllBehind says that all came that was injected behind those that came before.
func (n *net) wantAllBehind(t *testing.T, before map[api.Flow][]uint32, injected map[api.Flow]int) {
	t.Helper()
	came := n.came(t)
	for flow, bodies := range n.sent {
		if got, want := came[flow][len(before[flow]):], bodies[injected[flow]:]; !slices.Equal(got, want) {
			t.Fatalf("%v: %v came, want %v", flow, got, want)
		}
	}
	n.wantSome(t)
}

// moves is how many there could be, of all that was injected: each is let in, goes over each link of its way, and out.
func (n *net) moves() int {
	all := 0
	for flow, bodies := range n.sent {
		all += len(bodies) * (len(route.Path(n.p, flow.Src, flow.Dst)) + 1)
	}
	return all
}

// drain goes on for as many rounds as there could be moves, each of which may have to wait for an exchange, and behind two more, for all that was lost to be found.
func (n *net) drain(t *testing.T) {
	t.Helper()
	for left := (n.moves() + 2) * (n.p.Every + 1); n.inside() > 0; left-- {
		if left == 0 {
			t.Fatalf("%+v: %d are inside yet", n.p, n.inside())
		}
		n.Round()
		n.stands(t)
	}
}

// exchange goes on until each node has told each other one so often where its ends stand.
func (n *net) exchange(times int) { rounds(n.Fabric, times*n.p.Every) }

// TestAllComes where nothing is lost, late or bent.
func TestAllComes(t *testing.T) {
	s := steps(3)
	for i := range 80 {
		p := randomPlan(&s)
		if i < len(plans(t)) {
			p = plans(t)[i]
		}
		p.Bag = max(p.Bag, enough)
		n := netOf(t, p)
		for range 20 {
			n.fill(&s)
			n.Round()
			n.stands(t)
		}
		n.wantSome(t)
		n.drain(t)
		n.wantAllBehind(t, nil, nil)
		n.exchange(2)
		n.wantNothingOut(t)
	}
}

// befall does to what is on a link what may happen there: it is lost, comes twice, comes late, is bent, or comes. What was not bent is a frame that may be there, and is never refused for want of room.
func (n *net) befall(t *testing.T, s *steps, h, lossy int) {
	t.Helper()
	l := n.Link(h)
	for range len(l.All()) {
		row := l.All()
		if len(row) == 0 {
			return
		}
		k := s.below(len(row))
		switch s.below(lossy) {
		case 0:
			l.Take(k)
			continue
		case 1:
			l.Twice(k)
			continue
		case 2:
			l.Bend(k, s.below(100), byte(1+s.below(255)))
			wantDeliver(t, n.Fabric, h, k, api.ErrFrame)
			continue
		case 3:
		default:
			k = 0
		}
		if err := n.Deliver(h, k); err != api.OK && err != api.ErrStale {
			t.Fatalf("Deliver of %x = %d", row[k], err)
		}
	}
}

// TestLinksThatLose: in what comes there is nothing that was not sent, and behind a few exchanges nothing is lost of what may be sent, so that all comes again.
func TestLinksThatLose(t *testing.T) {
	s, lost := steps(4), 0
	for i := range 150 {
		p := randomPlan(&s)
		if i < len(plans(t)) {
			p = plans(t)[i]
		}
		p.Bag = max(p.Bag, enough)
		n := netOf(t, p)
		lossy := 4 + s.below(12)
		for range 60 {
			if s.below(3) == 0 {
				n.fill(&s)
			}
			n.Tick()
			for h := range n.hops {
				n.befall(t, &s, h, lossy)
			}
			n.stands(t)
		}
		n.wantSome(t)
		n.Round()
		n.drain(t)
		n.exchange(3)
		n.wantNothingOut(t)
		n.wantSome(t)
		before, injected := n.came(t), map[api.Flow]int{}
		for flow, bodies := range n.sent {
			injected[flow] = len(bodies)
			lost += len(bodies) - len(before[flow])
		}
		n.fill(&s)
		n.drain(t)
		n.wantAllBehind(t, before, injected)
	}
	if lost == 0 {
		t.Error("nothing was lost")
	}
}

// TestBagsThatAreTooSmall: what finds no room on a link is lost as any other loss, so that all stands behind any steps.
func TestBagsThatAreTooSmall(t *testing.T) {
	s := steps(6)
	for bag := 1; bag <= 8; bag++ {
		for range 10 {
			p := randomPlan(&s)
			p.Bag = bag
			n := netOf(t, p)
			for range 60 {
				n.fill(&s)
				if s.below(2) == 0 {
					n.Tick()
				} else {
					n.Round()
				}
				n.stands(t)
			}
			n.wantSome(t)
		}
	}
}

// TestShortNumbersGoRound: far more is sent over one link than short numbers there are; one block is lost, and no more.
func TestShortNumbersGoRound(t *testing.T) {
	const many, lost = 70000, 30000
	p := laid(t, api.Plan{Lanes: 1, Room: 8, Queue: 8, Rounds: 1, Every: 1, Bag: 10, Weights: []int{1}, Start: 65000}, 0)
	f := begun(t, p)
	var want []api.Packet
	for k := range many {
		x := api.Packet{Src: 0, Dst: 1, Body: uint32(k)}
		wantInject(t, f, x, api.OK)
		if k == lost {
			f.Tick()
			f.Link(0).Take(0)
			continue
		}
		f.Round()
		want = append(want, x)
	}
	rounds(f, 3)
	wantGot(t, f, 1, want...)
	wantAccount(t, f, api.Hop{From: 0, To: 1}, 0, api.Account{Usable: 8})
	if sent := f.Node(0).Sender(1, 0).Sent(); sent != 65000+many {
		t.Errorf("%d are sent", sent)
	}
}
