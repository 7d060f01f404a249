package node

import (
	"bytes"
	"math"
	"slices"
	"sync"
	"testing"

	"shunter/api"
	"shunter/tree"
	"shunter/wire"
)

// far are numbers that are no node's, port's or lane's of any plan.
var far = []int{-1, -2, -3, -6, -256, -257, 6, 7, 8, 16, 64, 255, 256, 257, 65535, 65536, 65537, 1<<31 - 1, 1 << 31, 1 << 32, 1<<32 + 1, -1 << 31, -1 << 32, -1<<32 + 1, math.MaxInt, math.MaxInt - 1, math.MinInt, math.MinInt + 1}

// laid is the plan of a tree, of which all other numbers are those of p.
func laid(t *testing.T, p api.Plan, parents ...int) api.Plan {
	t.Helper()
	p, err := tree.Lay(p, parents)
	if err != api.OK {
		t.Fatalf("no tree: %v", parents)
	}
	return p
}

// star is a plan of two lanes, in which node 0 stands between all others.
func star(t *testing.T, others int) api.Plan {
	t.Helper()
	return laid(t, api.Plan{Lanes: 2, Room: 2, Queue: 8, Rounds: 4, Every: 8, Bag: 20, Weights: []int{1, 1}}, make([]int, others)...)
}

// full is a plan with an edge between each two nodes, and ways of one hop.
func full(p api.Plan, nodes int) api.Plan {
	p.Nodes, p.Edges, p.Next = nodes, nil, make([][]int, nodes)
	for v := range p.Next {
		for w := range p.Next {
			p.Next[v] = append(p.Next[v], w)
			if v < w {
				p.Edges = append(p.Edges, api.Edge{A: v, B: w})
			}
		}
	}
	return p
}

// ring is a plan of four nodes round, on which what is for the node over there goes up from the lower two, and down from the upper two.
func ring(p api.Plan) api.Plan {
	p.Nodes = 4
	p.Edges = []api.Edge{{A: 2, B: 3}, {A: 0, B: 3}, {A: 1, B: 2}, {A: 0, B: 1}}
	p.Next = [][]int{{0, 1, 1, 3}, {0, 1, 2, 2}, {1, 1, 2, 3}, {0, 0, 2, 3}}
	return p
}

func deepClone(p api.Plan) api.Plan {
	p.Edges, p.Weights, p.Next = slices.Clone(p.Edges), slices.Clone(p.Weights), slices.Clone(p.Next)
	for i := range p.Next {
		p.Next[i] = slices.Clone(p.Next[i])
	}
	return p
}

func same(p, q api.Plan) bool {
	return p.Nodes == q.Nodes && p.Lanes == q.Lanes && p.Room == q.Room && p.Queue == q.Queue && p.Rounds == q.Rounds &&
		p.Every == q.Every && p.Bag == q.Bag && p.Start == q.Start && slices.Equal(p.Edges, q.Edges) &&
		slices.Equal(p.Weights, q.Weights) && slices.EqualFunc(p.Next, q.Next, slices.Equal[[]int])
}

// begun is a node that there must be.
func begun(t *testing.T, p api.Plan, v int) *Node {
	t.Helper()
	n := New(p, v)
	if n == nil {
		t.Fatalf("New(%+v, %d) = nil", p, v)
	}
	return n
}

func encoded(t *testing.T, f api.Frame) []byte {
	t.Helper()
	b, err := wire.Encode(f)
	if err != api.OK {
		t.Fatalf("Encode(%+v) = %d", f, err)
	}
	return b
}

func data(lane uint8, seq uint16, src, dst uint8, body uint32) api.Frame {
	return api.Frame{Kind: api.Data, Lane: lane, Seq: seq, Src: src, Dst: dst, Body: body}
}

func creditOf(lane uint8, limit uint16) api.Frame {
	return api.Frame{Kind: api.Credit, Lane: lane, Seq: limit}
}

func resyncOf(lane uint8, sent uint16) api.Frame {
	return api.Frame{Kind: api.Resync, Lane: lane, Seq: sent}
}

func wantTake(t *testing.T, n *Node, from int, f api.Frame, want api.Errno) {
	t.Helper()
	if got := n.Take(from, encoded(t, f)); got != want {
		t.Fatalf("Take(%d, %+v) = %d, want %d", from, f, got, want)
	}
}

func wantInject(t *testing.T, n *Node, x api.Packet, want api.Errno) {
	t.Helper()
	if got := n.Inject(x); got != want {
		t.Fatalf("Inject(%v) = %d, want %d", x, got, want)
	}
}

// going is a frame, and to whom it goes.
type going struct {
	to int
	f  api.Frame
}

// frames are what goes out, told as frames.
func frames(t *testing.T, outs []Out) []going {
	t.Helper()
	var all []going
	for _, out := range outs {
		f, err := wire.Decode(out.B)
		if err != api.OK {
			t.Fatalf("to %d goes %x, that is no frame", out.To, out.B)
		}
		all = append(all, going{out.To, f})
	}
	return all
}

func wantTick(t *testing.T, n *Node, want ...going) {
	t.Helper()
	if got := frames(t, n.Tick()); !slices.Equal(got, want) {
		t.Fatalf("Tick: %+v, want %+v", got, want)
	}
}

func wantGot(t *testing.T, n *Node, want ...api.Packet) {
	t.Helper()
	if got := n.Host().Got(); !slices.Equal(got, want) {
		t.Fatalf("came: %v, want %v", got, want)
	}
}

func wantQueue(t *testing.T, n *Node, in, out, lane int, want ...api.Packet) {
	t.Helper()
	if got := n.Rings().All(in, out, lane); !slices.Equal(got, want) {
		t.Fatalf("from port %d to port %d, in lane %d: %v, want %v", in, out, lane, got, want)
	}
}

// TestExample is the chapter's.
func TestExample(t *testing.T) {
	p := laid(t, api.Plan{Lanes: 1, Room: 1, Queue: 1, Rounds: 1, Every: 8, Bag: 1, Weights: []int{1}}, 0)
	a, b := begun(t, p, 0), begun(t, p, 1)
	x := api.Packet{Src: 0, Dst: 1, Body: 9}
	wantInject(t, a, x, api.OK)
	outs := a.Tick()
	if len(outs) != 1 || outs[0].To != 1 {
		t.Fatalf("Tick: %v", outs)
	}
	if err := b.Take(0, outs[0].B); err != api.OK {
		t.Fatalf("Take = %d", err)
	}
	wantTick(t, b)
	wantGot(t, b, x)
}

func TestErrorsAreTheirNumbers(t *testing.T) {
	p := laid(t, api.Plan{Lanes: 1, Room: 1, Queue: 1, Rounds: 1, Every: 8, Bag: 1, Weights: []int{1}}, 0)
	n := begun(t, p, 0)
	for i, want := range []api.Errno{0, 150} {
		if got := n.Inject(api.Packet{Dst: 1}); got != want {
			t.Errorf("time %d: Inject = %d, want %d", i, got, want)
		}
	}
	if got := n.Inject(api.Packet{}); got != 1 {
		t.Errorf("Inject of one to itself = %d, want 1", got)
	}
	if got := n.Take(0, nil); got != 1 {
		t.Errorf("Take from itself = %d, want 1", got)
	}
	if got := n.Take(1, nil); got != 30 {
		t.Errorf("Take of nothing = %d, want 30", got)
	}
	for i, want := range []api.Errno{0, 60} {
		if got := n.Take(1, encoded(t, data(0, 0, 1, 0, 7))); got != want {
			t.Errorf("time %d: Take of data = %d, want %d", i, got, want)
		}
	}
	if got := n.Take(1, encoded(t, data(0, 1, 1, 0, 7))); got != 61 {
		t.Errorf("Take of data without room = %d, want 61", got)
	}
}

// TestNodesThatThereAreNot has plans that may not be, for each reason, and numbers that are no node's.
func TestNodesThatThereAreNot(t *testing.T) {
	good := star(t, 2)
	for v := range good.Nodes {
		begun(t, good, v)
	}
	for _, v := range append([]int{3, 4, 5}, far...) {
		if New(good, v) != nil {
			t.Errorf("New of a plan of 3 nodes, %d: a node", v)
		}
	}
	for i, bend := range []func(p *api.Plan){
		func(p *api.Plan) { *p = api.Plan{} },
		func(p *api.Plan) { p.Nodes = 2 },
		func(p *api.Plan) { p.Lanes = 3 },
		func(p *api.Plan) { p.Lanes, p.Weights = 0, nil },
		func(p *api.Plan) { p.Room = 0 },
		func(p *api.Plan) { p.Room = 9 },
		func(p *api.Plan) { p.Queue = 0 },
		func(p *api.Plan) { p.Queue = 9 },
		func(p *api.Plan) { p.Rounds = 0 },
		func(p *api.Plan) { p.Rounds = 5 },
		func(p *api.Plan) { p.Every = 0 },
		func(p *api.Plan) { p.Every = 9 },
		func(p *api.Plan) { p.Bag = 0 },
		func(p *api.Plan) { p.Bag = 65 },
		func(p *api.Plan) { p.Weights[1] = 6 },
		func(p *api.Plan) { p.Edges[0] = p.Edges[1] },
		func(p *api.Plan) { p.Edges = nil },
		func(p *api.Plan) { p.Next = nil },
		func(p *api.Plan) { p.Next[0][1] = 0 },
		func(p *api.Plan) { p.Next[1][2] = 2 },
		func(p *api.Plan) { *p = full(*p, 3); p.Next = [][]int{{1, 1, 1}, {2, 2, 2}, {0, 0, 0}} },
		func(p *api.Plan) { p.Nodes, p.Edges, p.Next = 1, nil, [][]int{{0}} },
	} {
		p := deepClone(good)
		bend(&p)
		for v := -1; v <= 6; v++ {
			if New(p, v) != nil {
				t.Errorf("bent plan %d, New of %d: a node", i, v)
			}
		}
	}
}

// plans have all bounds at their ends, more than one shape, and beginnings on both sides of where short numbers begin again.
func plans(t *testing.T) []api.Plan {
	t.Helper()
	least := api.Plan{Lanes: 1, Room: 1, Queue: 1, Rounds: 1, Every: 1, Bag: 1, Weights: []int{1}}
	most := api.Plan{Lanes: 3, Room: 8, Queue: 8, Rounds: 4, Every: 8, Bag: 64, Weights: []int{5, 5, 5}, Start: 65535}
	mixed := api.Plan{Lanes: 3, Room: 2, Queue: 4, Rounds: 2, Every: 3, Bag: 20, Weights: []int{1, 2, 3}, Start: 65530}
	two := api.Plan{Lanes: 2, Room: 3, Queue: 2, Rounds: 3, Every: 2, Bag: 9, Weights: []int{4, 1}, Start: 32767}
	return []api.Plan{
		laid(t, least, 0), laid(t, most, 0), laid(t, mixed, 0, 0, 1), laid(t, two, 0, 1, 2, 3, 4),
		laid(t, mixed, 0, 0, 0, 0, 0), laid(t, least, 0, 0, 0), full(most, 6), full(mixed, 4), full(two, 3), full(least, 5),
		ring(two), ring(mixed), ring(least), laid(t, most, 0, 0, 1, 1, 2), laid(t, most, 0, 1, 1, 1, 1),
	}
}

// everyNode plays with a new node of each plan.
func everyNode(t *testing.T, play func(n *Node, p api.Plan, v int)) {
	t.Helper()
	for _, p := range plans(t) {
		for v := range p.Nodes {
			play(begun(t, p, v), p, v)
		}
	}
}

// beside goes through the edges.
func beside(p api.Plan, v int) []int {
	var all []int
	for w := range p.Nodes {
		if slices.Contains(p.Edges, api.Edge{A: v, B: w}) || slices.Contains(p.Edges, api.Edge{A: w, B: v}) {
			all = append(all, w)
		}
	}
	return all
}

// portOf is the chapter's PORT OF d.
func portOf(p api.Plan, v, d int) int {
	if d == v {
		return 0
	}
	return 1 + slices.Index(beside(p, v), p.Next[v][d])
}

// TestNew looks at all parts that a new node has, and fills its rings to see how many slots they have.
func TestNew(t *testing.T) {
	everyNode(t, func(n *Node, p api.Plan, v int) {
		ports := len(beside(p, v)) + 1
		for port := 1; port < ports; port++ {
			for lane := range p.Lanes {
				s, r := n.Sender(port, lane), n.Receiver(port, lane)
				start := uint64(p.Start)
				if s.Sent() != start || s.Usable() != p.Room || s.Limit() != start+uint64(p.Room) {
					t.Fatalf("port %d, lane %d: sender has sent %d, may send %d", port, lane, s.Sent(), s.Usable())
				}
				if r.Expects() != start || r.Held() != 0 || r.Limit() != start+uint64(p.Room) {
					t.Fatalf("port %d, lane %d: receiver expects %d, holds %d", port, lane, r.Expects(), r.Held())
				}
			}
		}
		wantGot(t, n)
		for lane := range p.Lanes {
			for range p.Queue {
				wantInject(t, n, api.Packet{Src: v, Dst: (v + 1) % p.Nodes, Lane: lane}, api.OK)
			}
			wantInject(t, n, api.Packet{Src: v, Dst: (v + 1) % p.Nodes, Lane: lane}, api.ErrBack)
		}
		wantInject(t, n, api.Packet{Src: v, Dst: (v + 1) % p.Nodes, Lane: p.Lanes}, api.ErrArg)
		if n.Rings().Push(ports, 0, 0, api.Packet{}) || n.Rings().Push(0, ports, 0, api.Packet{}) || n.Rings().Push(0, 0, p.Lanes, api.Packet{}) {
			t.Fatalf("%d ports, %d lanes: more queues", ports, p.Lanes)
		}
		for i := range ports * p.Lanes * p.Room {
			in, out, lane := i%ports, i/ports%ports, i%p.Lanes
			if !n.Rings().Push(in, out, lane, api.Packet{}) {
				t.Fatalf("%d ports, %d lanes, room %d: no %d-th slot", ports, p.Lanes, p.Room, i)
			}
		}
		if n.Rings().Push(0, 0, 0, api.Packet{}) {
			t.Fatalf("%d ports, %d lanes, room %d: one more slot", ports, p.Lanes, p.Room)
		}
	})
}

// TestParts looks where there are none, and that each is another one, the same whenever it is asked for.
func TestParts(t *testing.T) {
	everyNode(t, func(n *Node, p api.Plan, v int) {
		ports := len(beside(p, v)) + 1
		wantNone := func(port, lane int) {
			t.Helper()
			if n.Sender(port, lane) != nil || n.Receiver(port, lane) != nil {
				t.Fatalf("%d ports, %d lanes: port %d, lane %d has ends", ports, p.Lanes, port, lane)
			}
		}
		for _, k := range far {
			for i := range 6 {
				wantNone(k, i)
				wantNone(i, k)
			}
			wantNone(k, k)
		}
		seen := map[any]bool{}
		for port := range 8 {
			for lane := range 5 {
				if port == 0 || port >= ports || lane >= p.Lanes {
					wantNone(port, lane)
					continue
				}
				s, r := n.Sender(port, lane), n.Receiver(port, lane)
				if s == nil || r == nil || seen[s] || seen[r] {
					t.Fatalf("port %d, lane %d: no ends of their own", port, lane)
				}
				seen[s], seen[r] = true, true
				if n.Sender(port, lane) != s || n.Receiver(port, lane) != r {
					t.Fatalf("port %d, lane %d: other ends at the second time", port, lane)
				}
			}
		}
		if n.Host() == nil || n.Host() != n.Host() || n.Rings() == nil || n.Rings() != n.Rings() {
			t.Fatal("no host, or rings, or others at the second time")
		}
	})
}

// TestInject asks for each two ends, in each lane, and looks at what waits then.
func TestInject(t *testing.T) {
	ends := append([]int{0, 1, 2, 3, 4, 5}, far...)
	everyNode(t, func(n *Node, p api.Plan, v int) {
		for _, src := range ends {
			for _, dst := range ends {
				for _, lane := range []int{-1, 0, 1, 2, 3} {
					x := api.Packet{Src: src, Dst: dst, Lane: lane, Body: 1 << 31}
					if src != v || dst == v || dst < 0 || dst >= p.Nodes || lane < 0 || lane >= p.Lanes {
						wantInject(t, n, x, api.ErrArg)
						if n.Host().Waits(lane) != 0 {
							t.Fatalf("node %d: %v is refused, and waits", v, x)
						}
						continue
					}
					wantInject(t, n, x, api.OK)
					if got, ok := n.Host().Next(lane); !ok || got != x || n.Host().Waits(lane) != 0 {
						t.Fatalf("node %d: %v waits, want %v", v, got, x)
					}
				}
			}
		}
	})
}

// TestInjectWhereItIsFull: who is refused for what it is is so also where there is no room.
func TestInjectWhereItIsFull(t *testing.T) {
	everyNode(t, func(n *Node, p api.Plan, v int) {
		other := (v + 1) % p.Nodes
		for lane := range p.Lanes {
			for k := range p.Queue {
				wantInject(t, n, api.Packet{Src: v, Dst: other, Lane: lane, Body: uint32(k)}, api.OK)
			}
		}
		for lane := range p.Lanes {
			wantInject(t, n, api.Packet{Src: v, Dst: other, Lane: lane}, api.ErrBack)
			wantInject(t, n, api.Packet{Src: other, Dst: v, Lane: lane}, api.ErrArg)
			wantInject(t, n, api.Packet{Src: v, Dst: v, Lane: lane}, api.ErrArg)
			wantInject(t, n, api.Packet{Src: v, Dst: p.Nodes, Lane: lane}, api.ErrArg)
			wantInject(t, n, api.Packet{Src: v, Dst: other, Lane: lane + p.Lanes}, api.ErrArg)
			for k := range p.Queue {
				if x, _ := n.Host().Next(lane); x.Body != uint32(k) {
					t.Fatalf("%d-th that waits: %v", k, x)
				}
			}
		}
	})
}

// TestTakeFromNobody: who is not beside it is refused for that, whatever it sends.
func TestTakeFromNobody(t *testing.T) {
	everyNode(t, func(n *Node, p api.Plan, v int) {
		near := beside(p, v)
		other := uint8(near[0])
		rows := [][]byte{nil, {}, {1}, make([]byte, 12), make([]byte, 1<<16), encoded(t, creditOf(0, p.Start+8)), encoded(t, resyncOf(2, p.Start+1)), encoded(t, data(0, p.Start, other, uint8(v), 7))}
		for _, from := range append([]int{0, 1, 2, 3, 4, 5}, far...) {
			if slices.Contains(near, from) {
				continue
			}
			for _, b := range rows {
				if got := n.Take(from, b); got != api.ErrArg {
					t.Fatalf("node %d, beside %v: Take(%d, %x) = %d, want 1", v, near, from, b, got)
				}
			}
		}
		wantUntouched(t, n, p, v)
	})
}

// wantUntouched says that a node has all its parts as New gave them.
func wantUntouched(t *testing.T, n *Node, p api.Plan, v int) {
	t.Helper()
	start := uint64(p.Start)
	for port := 1; port <= len(beside(p, v)); port++ {
		for lane := range p.Lanes {
			s, r := n.Sender(port, lane), n.Receiver(port, lane)
			if s.Sent() != start || s.Usable() != p.Room || r.Expects() != start || r.Held() != 0 {
				t.Fatalf("node %d, port %d, lane %d is touched", v, port, lane)
			}
		}
	}
	for in := range len(beside(p, v)) + 1 {
		for out := range len(beside(p, v)) + 1 {
			for lane := range p.Lanes {
				wantQueue(t, n, in, out, lane)
			}
		}
	}
	for lane := range p.Lanes {
		if n.Host().Waits(lane) != 0 {
			t.Fatalf("node %d: something waits", v)
		}
	}
	wantGot(t, n)
}

// TestTakeWhatIsNoFrame has bytes of all kinds that are none, frames bent at each bit, lanes that there are not, and ends that are no nodes.
func TestTakeWhatIsNoFrame(t *testing.T) {
	everyNode(t, func(n *Node, p api.Plan, v int) {
		for _, from := range beside(p, v) {
			refuses := func(b []byte) {
				t.Helper()
				if got := n.Take(from, b); got != api.ErrFrame {
					t.Fatalf("%d nodes, %d lanes: Take(%d, %x) = %d, want 30", p.Nodes, p.Lanes, from, b, got)
				}
			}
			for size := range 20 {
				refuses(make([]byte, size))
				refuses(bytes.Repeat([]byte{1}, size))
				refuses(bytes.Repeat([]byte{255}, size))
			}
			good := []api.Frame{data(0, p.Start, uint8(from), uint8(v), 7), creditOf(0, p.Start+8), resyncOf(0, p.Start+1)}
			for _, f := range good {
				b := encoded(t, f)
				refuses(b[:len(b)-1])
				refuses(append(slices.Clone(b), 0))
				for i := range 8 * len(b) {
					bent := slices.Clone(b)
					bent[i/8] ^= 1 << (i % 8)
					refuses(bent)
				}
			}
			for lane := p.Lanes; lane < 3; lane++ {
				for _, f := range good {
					f.Lane = uint8(lane)
					refuses(encoded(t, f))
				}
			}
			for node := p.Nodes; node < 6; node++ {
				refuses(encoded(t, data(0, p.Start, uint8(node), uint8(v), 7)))
				refuses(encoded(t, data(0, p.Start, uint8(from), uint8(node), 7)))
				refuses(encoded(t, data(0, p.Start+30000, uint8(from), uint8(node), 7))) // ahead of what the receiver says
			}
		}
		wantUntouched(t, n, p, v)
	})
}

// TestDataGoesToItsQueue sends from each node beside, from each to each, also what would never go that way.
func TestDataGoesToItsQueue(t *testing.T) {
	everyNode(t, func(_ *Node, p api.Plan, v int) {
		for i, from := range beside(p, v) {
			for src := range p.Nodes {
				for dst := range p.Nodes {
					for lane := range p.Lanes {
						if src == dst {
							continue
						}
						n := begun(t, p, v)
						wantTake(t, n, from, data(uint8(lane), p.Start, uint8(src), uint8(dst), 1<<31+5), api.OK)
						out := portOf(p, v, dst)
						wantQueue(t, n, i+1, out, lane, api.Packet{Src: src, Dst: dst, Lane: lane, Body: 1<<31 + 5})
						r := n.Receiver(i+1, lane)
						if r.Held() != 1 || r.Expects() != uint64(p.Start)+1 {
							t.Fatalf("receiver holds %d, expects %d", r.Held(), r.Expects())
						}
						// With this one taken back nothing else may have changed.
						n.Rings().Pop(i+1, out, lane)
						r.Free()
						*r = *begun(t, p, v).Receiver(i+1, lane)
						wantUntouched(t, n, p, v)
					}
				}
			}
		}
	})
}

// TestDataComesAsTheReceiverSays: what came, or lies behind a gap, or has no room.
func TestDataComesAsTheReceiverSays(t *testing.T) {
	p := star(t, 2)
	p.Room, p.Start = 3, 65535
	n := begun(t, p, 0)
	x := func(body uint32) api.Packet { return api.Packet{Src: 2, Dst: 1, Lane: 1, Body: body} }
	take := func(seq uint16, body uint32, want api.Errno) {
		t.Helper()
		wantTake(t, n, 2, data(1, seq, 2, 1, body), want)
	}
	take(0, 1, api.OK) // 65535 is lost
	take(65535, 2, api.ErrStale)
	take(0, 3, api.ErrStale)
	take(3, 4, api.ErrOver)
	take(1, 5, api.OK)
	take(2, 6, api.OK)
	take(3, 7, api.ErrOver)
	take(2, 8, api.ErrStale)
	wantQueue(t, n, 2, 1, 1, x(1), x(5), x(6))
	if r := n.Receiver(2, 1); r.Held() != 3 || r.Expects() != 65539 || r.Limit() != 65539 {
		t.Fatalf("it holds %d, expects %d", r.Held(), r.Expects())
	}
	if r := n.Receiver(2, 0); r.Held() != 0 || r.Expects() != 65535 {
		t.Fatalf("the other lane holds %d, expects %d", r.Held(), r.Expects())
	}
	wantTake(t, n, 1, data(1, 65535, 1, 2, 9), api.OK)
	wantQueue(t, n, 1, 2, 1, api.Packet{Src: 1, Dst: 2, Lane: 1, Body: 9})
}

// TestCreditAndResync: both are taken, be they news or not, and touch one lane of one port alone.
func TestCreditAndResync(t *testing.T) {
	everyNode(t, func(_ *Node, p api.Plan, v int) {
		start := uint64(p.Start)
		for i, from := range beside(p, v) {
			for lane := range p.Lanes {
				n := begun(t, p, v)
				s, r := n.Sender(i+1, lane), n.Receiver(i+1, lane)
				for range p.Room {
					s.Next()
				}
				before := *r
				for _, add := range []uint16{uint16(p.Room) + 1, uint16(p.Room) + 1, 0, 9 + uint16(p.Room), 30000, 40000} {
					wantTake(t, n, from, creditOf(uint8(lane), p.Start+add), api.OK)
					if s.Usable() != 1 || s.Limit() != start+uint64(p.Room)+1 || *r != before {
						t.Fatalf("credit of %d more: may send %d", add, s.Usable())
					}
				}
				*s = *begun(t, p, v).Sender(i+1, lane)
				wantUntouched(t, n, p, v)
				after := *s
				for _, add := range []uint16{uint16(p.Room), uint16(p.Room), 0, 2*uint16(p.Room) + 1, 30000, 40000} {
					wantTake(t, n, from, resyncOf(uint8(lane), p.Start+add), api.OK)
					if r.Expects() != start+uint64(p.Room) || r.Held() != 0 || *s != after {
						t.Fatalf("resync of %d more: it expects %d", add, r.Expects())
					}
				}
				*r = before
				wantUntouched(t, n, p, v)
			}
		}
	})
}

// TestHandedInIsNeitherChangedNorKept bends plan and bytes behind the calls, and holds the node against one whose were left alone.
func TestHandedInIsNeitherChangedNorKept(t *testing.T) {
	everyNode(t, func(twin *Node, p api.Plan, v int) {
		mine := deepClone(p)
		n := begun(t, mine, v)
		if !same(mine, p) {
			t.Fatalf("plan is %+v, it was %+v", mine, p)
		}
		for _, row := range mine.Next {
			clear(row)
		}
		clear(mine.Next)
		clear(mine.Edges)
		clear(mine.Weights)
		for i, from := range beside(p, v) {
			for k := range p.Room {
				dst := uint8((from + 1 + k%(p.Nodes-1)) % p.Nodes)
				long := append(encoded(t, data(uint8(i%p.Lanes), p.Start+uint16(k), uint8(from), dst, uint32(k))), 9, 8, 7)
				b := long[:len(long)-3]
				before := slices.Clone(long)
				if n.Take(from, b) != api.OK || twin.Take(from, slices.Clone(b)) != api.OK {
					t.Fatal("Take")
				}
				if !bytes.Equal(long, before) {
					t.Fatalf("bytes are %x, they were %x", long, before)
				}
				clear(long)
			}
		}
		for range 12 {
			if got, want := n.Tick(), twin.Tick(); !slices.Equal(frames(t, got), frames(t, want)) {
				t.Fatalf("Tick: %v, the other one's %v", got, want)
			}
		}
		wantGot(t, n, twin.Host().Got()...)
	})
}

// TestWhatGoesOutIsNew writes all that was told, up to its capacity, and looks whether it shares memory with anything.
func TestWhatGoesOutIsNew(t *testing.T) {
	p := star(t, 3)
	p.Every = 1
	n, twin := begun(t, p, 0), begun(t, p, 0)
	var kept [][]Out
	var were [][]going
	for k := range 8 {
		for _, node := range []*Node{n, twin} {
			wantInject(t, node, api.Packet{Src: 0, Dst: 1 + k%3, Lane: k % 2}, api.OK)
		}
		outs, want := n.Tick(), frames(t, twin.Tick())
		if got := frames(t, outs); !slices.Equal(got, want) {
			t.Fatalf("Tick: %+v, want %+v", got, want)
		}
		for i, out := range outs {
			for j := range out.B[:cap(out.B)] {
				out.B[:cap(out.B)][j] ^= 255
			}
			for _, other := range outs[i+1:] {
				if _, err := wire.Decode(other.B); err != api.OK {
					t.Fatal("two frames share memory")
				}
			}
		}
		for _, out := range outs[len(outs):cap(outs)] {
			if out.To != 0 || out.B != nil {
				t.Fatalf("behind what goes out lies %v", out)
			}
		}
		clear(outs[:cap(outs)])
		kept = append(kept, twin.Tick())
		n.Tick()
		were = append(were, frames(t, kept[k]))
	}
	for k := range kept {
		if got := frames(t, kept[k]); !slices.Equal(got, were[k]) {
			t.Fatalf("what went out is %+v now, it was %+v", got, were[k])
		}
	}
}

// TestNodesKnowNothingOfEachOther, though they be of one plan, and have one number.
func TestNodesKnowNothingOfEachOther(t *testing.T) {
	everyNode(t, func(one *Node, p api.Plan, v int) {
		two := begun(t, p, v)
		from := beside(p, v)[0]
		for range 9 {
			one.Inject(api.Packet{Src: v, Dst: from})
			one.Take(from, encoded(t, data(0, p.Start, uint8(from), uint8(v), 1)))
			one.Tick()
		}
		wantUntouched(t, two, p, v)
		wantUntouched(t, begun(t, p, v), p, v)
	})
}

func TestNodesSideBySide(t *testing.T) {
	p := star(t, 3)
	var joined sync.WaitGroup
	ends := make([][]going, 8)
	for i := range ends {
		joined.Go(func() {
			n := New(p, 0)
			for k := range 500 {
				n.Inject(api.Packet{Src: 0, Dst: k % 4, Lane: k % 2, Body: uint32(k)})
				for _, out := range n.Tick() {
					f, _ := wire.Decode(out.B)
					ends[i] = append(ends[i], going{out.To, f})
					n.Take(out.To, out.B)
				}
			}
		})
	}
	joined.Wait()
	for _, end := range ends {
		if len(end) == 0 || !slices.Equal(end, ends[0]) {
			t.Error("nodes were told something else")
		}
	}
}

// TestPartsThatAreChanged: they are there to be looked at alone, but whoever lays something there makes no call panic.
func TestPartsThatAreChanged(t *testing.T) {
	everyNode(t, func(n *Node, p api.Plan, v int) {
		for _, d := range append([]int{0, 1, 2, 3, 4, 5}, far...) {
			x := api.Packet{Src: d, Dst: d}
			n.Host().Put(x)
			n.Rings().Push(1, 1, 0, x)
			n.Rings().Push(0, 0, 0, x)
			n.Receiver(1, 0).Free()
			n.Receiver(1, 0).Come(p.Start)
			n.Sender(1, 0).Next()
			n.Tick()
			n.Tick()
			n.Take(beside(p, v)[0], encoded(t, data(0, p.Start+1, 0, 1, 0)))
		}
	})
}
