package fabric

import (
	"bytes"
	"math"
	"slices"
	"sync"
	"testing"

	"shunter/api"
	"shunter/node"
	"shunter/route"
	"shunter/tree"
	"shunter/wire"
)

// far are numbers that are no node's, link's, frame's or lane's of any plan.
var far = []int{-1, -2, -3, -6, -30, -64, -256, -257, 64, 65, 100, 255, 256, 257, 65535, 65536, 65537, 1<<31 - 1, 1 << 31, 1 << 32, 1<<32 + 1, -1 << 31, -1 << 32, -1<<32 + 1, math.MaxInt, math.MaxInt - 1, math.MinInt, math.MinInt + 1}

// laid is the plan of a tree, of which all other numbers are those of p.
func laid(t *testing.T, p api.Plan, parents ...int) api.Plan {
	t.Helper()
	p, err := tree.Lay(p, parents)
	if err != api.OK {
		t.Fatalf("no tree: %v", parents)
	}
	return p
}

// pair is a plan of two nodes.
func pair(t *testing.T) api.Plan {
	t.Helper()
	return laid(t, api.Plan{Lanes: 1, Room: 2, Queue: 4, Rounds: 1, Every: 8, Bag: 20, Weights: []int{1}}, 0)
}

// full is a plan with an edge between each two nodes, and ways of one hop.
func full(p api.Plan, nodes int) api.Plan {
	p.Nodes, p.Edges, p.Next = nodes, nil, make([][]int, nodes)
	for v := range p.Next {
		for w := range p.Next {
			p.Next[v] = append(p.Next[v], w)
			if v < w {
				p.Edges = append(p.Edges, api.Edge{A: v, B: w})
			}
		}
	}
	return p
}

// ring is a plan of four nodes round, on which what is for the node over there goes up from the lower two, and down from the upper two.
func ring(p api.Plan) api.Plan {
	p.Nodes = 4
	p.Edges = []api.Edge{{A: 2, B: 3}, {A: 0, B: 3}, {A: 1, B: 2}, {A: 0, B: 1}}
	p.Next = [][]int{{0, 1, 1, 3}, {0, 1, 2, 2}, {1, 1, 2, 3}, {0, 0, 2, 3}}
	return p
}

// plans have all bounds at their ends, more than one shape, and beginnings on both sides of where short numbers begin again.
func plans(t *testing.T) []api.Plan {
	t.Helper()
	least := api.Plan{Lanes: 1, Room: 1, Queue: 1, Rounds: 1, Every: 1, Bag: 1, Weights: []int{1}}
	most := api.Plan{Lanes: 3, Room: 8, Queue: 8, Rounds: 4, Every: 8, Bag: 64, Weights: []int{5, 5, 5}, Start: 65535}
	mixed := api.Plan{Lanes: 3, Room: 2, Queue: 4, Rounds: 2, Every: 3, Bag: 20, Weights: []int{1, 2, 3}, Start: 65530}
	two := api.Plan{Lanes: 2, Room: 3, Queue: 2, Rounds: 3, Every: 2, Bag: 9, Weights: []int{4, 1}, Start: 32767}
	return []api.Plan{
		laid(t, least, 0), laid(t, most, 0), laid(t, mixed, 0, 0, 1), laid(t, two, 0, 1, 2, 3, 4),
		laid(t, mixed, 0, 0, 0, 0, 0), laid(t, least, 0, 0, 0), full(most, 6), full(mixed, 4), full(two, 3), full(least, 5),
		ring(two), ring(mixed), ring(least), laid(t, most, 0, 0, 1, 1, 2), laid(t, most, 0, 1, 1, 1, 1),
	}
}

// everyPlan plays with a new fabric of each plan.
func everyPlan(t *testing.T, play func(f *Fabric, p api.Plan)) {
	t.Helper()
	for _, p := range plans(t) {
		play(begun(t, p), p)
	}
}

// begun is a fabric that there must be.
func begun(t *testing.T, p api.Plan) *Fabric {
	t.Helper()
	f, err := New(p)
	if f == nil || err != api.OK {
		t.Fatalf("New(%+v) = %v, %d", p, f, err)
	}
	return f
}

func deepClone(p api.Plan) api.Plan {
	p.Edges, p.Weights, p.Next = slices.Clone(p.Edges), slices.Clone(p.Weights), slices.Clone(p.Next)
	for i := range p.Next {
		p.Next[i] = slices.Clone(p.Next[i])
	}
	return p
}

func same(p, q api.Plan) bool {
	return p.Nodes == q.Nodes && p.Lanes == q.Lanes && p.Room == q.Room && p.Queue == q.Queue && p.Rounds == q.Rounds &&
		p.Every == q.Every && p.Bag == q.Bag && p.Start == q.Start && slices.Equal(p.Edges, q.Edges) &&
		slices.Equal(p.Weights, q.Weights) && slices.EqualFunc(p.Next, q.Next, slices.Equal[[]int])
}

// beside goes through the edges.
func beside(p api.Plan, v int) []int {
	var all []int
	for w := range p.Nodes {
		if slices.Contains(p.Edges, api.Edge{A: v, B: w}) || slices.Contains(p.Edges, api.Edge{A: w, B: v}) {
			all = append(all, w)
		}
	}
	return all
}

// hopsOf are all links, from each node on, in order.
func hopsOf(p api.Plan) []api.Hop {
	var all []api.Hop
	for v := range p.Nodes {
		for _, w := range beside(p, v) {
			all = append(all, api.Hop{From: v, To: w})
		}
	}
	return all
}

// portTo is the port of v that leads to w.
func portTo(p api.Plan, v, w int) int { return 1 + slices.Index(beside(p, v), w) }

func encoded(t *testing.T, f api.Frame) []byte {
	t.Helper()
	b, err := wire.Encode(f)
	if err != api.OK {
		t.Fatalf("Encode(%+v) = %d", f, err)
	}
	return b
}

func data(lane int, seq uint16, src, dst int, body uint32) api.Frame {
	return api.Frame{Kind: api.Data, Lane: uint8(lane), Seq: seq, Src: uint8(src), Dst: uint8(dst), Body: body}
}

// sameRow says whether two rows have the same bytes.
func sameRow(a, b [][]byte) bool { return slices.EqualFunc(a, b, bytes.Equal) }

func wantOnLink(t *testing.T, f *Fabric, h int, want ...[]byte) {
	t.Helper()
	if got := f.Link(h).All(); !sameRow(got, want) {
		t.Fatalf("on link %d: %x, want %x", h, got, want)
	}
}

func wantInject(t *testing.T, f *Fabric, x api.Packet, want api.Errno) {
	t.Helper()
	if got := f.Inject(x); got != want {
		t.Fatalf("Inject(%v) = %d, want %d", x, got, want)
	}
}

func wantDeliver(t *testing.T, f *Fabric, h, k int, want api.Errno) {
	t.Helper()
	if got := f.Deliver(h, k); got != want {
		t.Fatalf("Deliver(%d, %d) = %d, want %d", h, k, got, want)
	}
}

func wantGot(t *testing.T, f *Fabric, v int, want ...api.Packet) {
	t.Helper()
	if got := f.Got(v); !slices.Equal(got, want) {
		t.Fatalf("to node %d came %v, want %v", v, got, want)
	}
}

// wantSameNode says that two nodes of a plan have the same in all their parts.
func wantSameNode(t *testing.T, p api.Plan, v int, got, want *node.Node) {
	t.Helper()
	ports := len(beside(p, v)) + 1
	for lane := range p.Lanes {
		if g, w := got.Host().Waits(lane), want.Host().Waits(lane); g != w {
			t.Fatalf("node %d, lane %d: %d wait, want %d", v, lane, g, w)
		}
		for in := range ports {
			for out := range ports {
				if g, w := got.Rings().All(in, out, lane), want.Rings().All(in, out, lane); !slices.Equal(g, w) {
					t.Fatalf("node %d, from port %d to port %d, in lane %d: %v, want %v", v, in, out, lane, g, w)
				}
			}
			if in > 0 && (*got.Sender(in, lane) != *want.Sender(in, lane) || *got.Receiver(in, lane) != *want.Receiver(in, lane)) {
				t.Fatalf("node %d, port %d, lane %d: ends are %+v, %+v, want %+v, %+v", v, in, lane,
					*got.Sender(in, lane), *got.Receiver(in, lane), *want.Sender(in, lane), *want.Receiver(in, lane))
			}
		}
	}
	if g, w := got.Host().Got(), want.Host().Got(); !slices.Equal(g, w) {
		t.Fatalf("to node %d came %v, want %v", v, g, w)
	}
}

// wantSame says that two fabrics of a plan have the same in all their parts.
func wantSame(t *testing.T, p api.Plan, got, want *Fabric) {
	t.Helper()
	if got.Ticks() != want.Ticks() {
		t.Fatalf("%d ticks, want %d", got.Ticks(), want.Ticks())
	}
	for h := range hopsOf(p) {
		wantOnLink(t, got, h, want.Link(h).All()...)
	}
	for v := range p.Nodes {
		wantSameNode(t, p, v, got.Node(v), want.Node(v))
	}
}

func wantUntouched(t *testing.T, f *Fabric, p api.Plan) {
	t.Helper()
	wantSame(t, p, f, begun(t, p))
}

// TestExamples has the chapter's, which is the first one of the whole, too.
func TestExamples(t *testing.T) {
	for _, start := range []uint16{0, 65535} {
		p := pair(t)
		p.Every, p.Start = 4, start
		f := begun(t, p)
		wantInject(t, f, api.Packet{Src: 0, Dst: 1, Body: 7}, api.OK)
		f.Round()
		wantGot(t, f, 1)
		f.Round()
		wantGot(t, f, 1, api.Packet{Src: 0, Dst: 1, Body: 7})
		wantGot(t, f, 0)
	}
}

// TestExampleOfLoss is the document's 2 to 4: a block is lost, found again, and what waited behind it comes.
func TestExampleOfLoss(t *testing.T) {
	p := pair(t)
	p.Room = 1
	f := begun(t, p)
	wantInject(t, f, api.Packet{Src: 0, Dst: 1, Body: 1}, api.OK)
	wantInject(t, f, api.Packet{Src: 0, Dst: 1, Body: 2}, api.OK)
	f.Tick()
	f.Tick()
	wantAccount(t, f, api.Hop{From: 0, To: 1}, 0, api.Account{Flying: 1})
	if _, ok := f.Link(0).Take(0); !ok {
		t.Fatal("nothing was on the link")
	}
	wantAccount(t, f, api.Hop{From: 0, To: 1}, 0, api.Account{Lost: 1})
	rounds(f, 6)
	wantAccount(t, f, api.Hop{From: 0, To: 1}, 0, api.Account{Late: 1})
	rounds(f, 10)
	wantGot(t, f, 1, api.Packet{Src: 0, Dst: 1, Body: 2})
}

// TestExamplesOfErrors are the document's 5 to 8.
func TestExamplesOfErrors(t *testing.T) {
	p := pair(t)
	p.Room, p.Queue = 1, 1
	f := begun(t, p)
	wantInject(t, f, api.Packet{Src: 0, Dst: 1, Body: 1}, 0)
	wantInject(t, f, api.Packet{Src: 0, Dst: 1, Body: 2}, 150)
	wantInject(t, f, api.Packet{Src: 0, Dst: 0, Body: 1}, 1)
	p.Lanes = 4
	wantNone(t, p, 120)
	bent := begun(t, pair(t))
	wantInject(t, bent, api.Packet{Src: 0, Dst: 1, Body: 5}, 0)
	bent.Tick()
	if !bent.Link(0).Bend(0, 7, 1) {
		t.Fatal("nothing was bent")
	}
	wantDeliver(t, bent, 0, 0, 30)
	wantDeliver(t, bent, 0, 0, 1)
	double := begun(t, pair(t))
	wantInject(t, double, api.Packet{Src: 0, Dst: 1, Body: 5}, 0)
	double.Tick()
	if !double.Link(0).Twice(0) {
		t.Fatal("nothing was doubled")
	}
	wantDeliver(t, double, 0, 0, 0)
	wantDeliver(t, double, 0, 0, 60)
	wantDeliver(t, double, 0, 0, 1)
}

func wantNone(t *testing.T, p api.Plan, want api.Errno) {
	t.Helper()
	if f, err := New(p); f != nil || err != want {
		t.Errorf("New(%+v) = %v, %d, want %d", p, f, err, want)
	}
}

// TestFabricsThatThereAreNot has plans that may not be, for each reason.
func TestFabricsThatThereAreNot(t *testing.T) {
	good := laid(t, api.Plan{Lanes: 2, Room: 2, Queue: 8, Rounds: 4, Every: 8, Bag: 20, Weights: []int{1, 1}}, 0, 0)
	for i, bend := range []struct {
		want api.Errno
		it   func(p *api.Plan)
	}{
		{api.ErrPlan, func(p *api.Plan) { *p = api.Plan{} }},
		{api.ErrPlan, func(p *api.Plan) { p.Nodes = 2 }},
		{api.ErrPlan, func(p *api.Plan) { p.Nodes, p.Edges, p.Next = 1, nil, [][]int{{0}} }},
		{api.ErrPlan, func(p *api.Plan) { *p = full(*p, 7) }},
		{api.ErrPlan, func(p *api.Plan) { p.Lanes = 3 }},
		{api.ErrPlan, func(p *api.Plan) { p.Lanes, p.Weights = 0, nil }},
		{api.ErrPlan, func(p *api.Plan) { p.Lanes, p.Weights = 4, []int{1, 1, 1, 1} }},
		{api.ErrPlan, func(p *api.Plan) { p.Room = 0 }},
		{api.ErrPlan, func(p *api.Plan) { p.Room = 9 }},
		{api.ErrPlan, func(p *api.Plan) { p.Queue = 0 }},
		{api.ErrPlan, func(p *api.Plan) { p.Queue = 9 }},
		{api.ErrPlan, func(p *api.Plan) { p.Rounds = 0 }},
		{api.ErrPlan, func(p *api.Plan) { p.Rounds = 5 }},
		{api.ErrPlan, func(p *api.Plan) { p.Every = 0 }},
		{api.ErrPlan, func(p *api.Plan) { p.Every = 9 }},
		{api.ErrPlan, func(p *api.Plan) { p.Bag = 0 }},
		{api.ErrPlan, func(p *api.Plan) { p.Bag = 65 }},
		{api.ErrPlan, func(p *api.Plan) { p.Bag = math.MinInt }},
		{api.ErrPlan, func(p *api.Plan) { p.Nodes = math.MaxInt }},
		{api.ErrPlan, func(p *api.Plan) { p.Weights[1] = 6 }},
		{api.ErrPlan, func(p *api.Plan) { p.Weights[0] = 0 }},
		{api.ErrPlan, func(p *api.Plan) { p.Edges[0] = p.Edges[1] }},
		{api.ErrPlan, func(p *api.Plan) { p.Edges[0] = api.Edge{A: 1, B: 0} }},
		{api.ErrPlan, func(p *api.Plan) { p.Next = nil }},
		{api.ErrPlan, func(p *api.Plan) { p.Next[1] = p.Next[1][:2] }},
		{api.ErrRoute, func(p *api.Plan) { p.Edges = nil }},
		{api.ErrRoute, func(p *api.Plan) { p.Next[0][1] = 0 }},
		{api.ErrRoute, func(p *api.Plan) { p.Next[1][2] = 2 }},
		{api.ErrRoute, func(p *api.Plan) { p.Next[1][2] = -1 }},
		{api.ErrRoute, func(p *api.Plan) { *p = full(*p, 3); p.Next = [][]int{{1, 1, 1}, {2, 2, 2}, {0, 0, 0}} }},
		{api.ErrPlan, func(p *api.Plan) { p.Edges, p.Room = nil, 9 }},
	} {
		p := deepClone(good)
		bend.it(&p)
		before := deepClone(p)
		if got := route.Check(p); got != bend.want {
			t.Fatalf("bent plan %d: Check = %d, want %d", i, got, bend.want)
		}
		wantNone(t, p, bend.want)
		if !same(p, before) {
			t.Errorf("bent plan %d is %+v, it was %+v", i, p, before)
		}
	}
	begun(t, good)
}

// TestNew looks at all parts that a new fabric has: each node against one of its own, each link for what it has room.
func TestNew(t *testing.T) {
	everyPlan(t, func(f *Fabric, p api.Plan) {
		if !same(f.Plan(), p) {
			t.Fatalf("Plan is %+v, want %+v", f.Plan(), p)
		}
		if !slices.Equal(f.Hops(), hopsOf(p)) {
			t.Fatalf("Hops are %v, want %v", f.Hops(), hopsOf(p))
		}
		if f.Ticks() != 0 {
			t.Fatalf("%d ticks", f.Ticks())
		}
		for v := range p.Nodes {
			wantSameNode(t, p, v, f.Node(v), node.New(p, v))
			wantGot(t, f, v)
			for w := range p.Nodes {
				want := api.OK
				if v != w {
					want = api.ErrArg
				}
				if got := f.Node(v).Inject(api.Packet{Src: w, Dst: (w + 1) % p.Nodes}); got != want {
					t.Fatalf("node %d takes what begins at %d: %d, want %d", v, w, got, want)
				}
			}
		}
		for h := range f.Hops() {
			wantOnLink(t, f, h)
			for k := range p.Bag {
				if !f.Link(h).Send([]byte{byte(k)}) {
					t.Fatalf("link %d takes %d alone, want %d", h, k, p.Bag)
				}
			}
			if f.Link(h).Send([]byte{1}) {
				t.Fatalf("link %d takes more than %d", h, p.Bag)
			}
		}
	})
}

// TestHopsOfOne are those of three nodes in a row.
func TestHopsOfOne(t *testing.T) {
	f := begun(t, laid(t, pair(t), 0, 1))
	want := []api.Hop{{From: 0, To: 1}, {From: 1, To: 0}, {From: 1, To: 2}, {From: 2, To: 1}}
	if got := f.Hops(); !slices.Equal(got, want) {
		t.Errorf("Hops: %v, want %v", got, want)
	}
}

// TestPartsThatThereAreNot: what is asked of them is nothing, and changes nothing.
func TestPartsThatThereAreNot(t *testing.T) {
	everyPlan(t, func(f *Fabric, p api.Plan) {
		hops := len(hopsOf(p))
		for _, v := range append([]int{p.Nodes, p.Nodes + 1, 6, 7}, far...) {
			if f.Node(v) != nil || len(f.Got(v)) != 0 {
				t.Fatalf("%d nodes: there is node %d", p.Nodes, v)
			}
		}
		for _, h := range append([]int{hops, hops + 1, 30, 31}, far...) {
			if f.Link(h) != nil {
				t.Fatalf("%d hops: there is link %d", hops, h)
			}
			for _, k := range append([]int{0, 1}, far...) {
				wantDeliver(t, f, h, k, api.ErrArg)
			}
		}
		wantUntouched(t, f, p)
	})
}

// TestPartsAreTheSame whenever they are asked for, and each is another one.
func TestPartsAreTheSame(t *testing.T) {
	everyPlan(t, func(f *Fabric, p api.Plan) {
		seen := map[any]bool{}
		for range 2 {
			for v := range p.Nodes {
				seen[f.Node(v)] = true
			}
			for h := range f.Hops() {
				seen[f.Link(h)] = true
			}
			f.Round()
		}
		if want := p.Nodes + len(hopsOf(p)); len(seen) != want || seen[nil] {
			t.Fatalf("%d parts, want %d", len(seen), want)
		}
	})
}

// TestInject asks for each two ends, in each lane, and looks what waits, and where.
func TestInject(t *testing.T) {
	ends := append([]int{0, 1, 2, 3, 4, 5, 6}, far...)
	everyPlan(t, func(f *Fabric, p api.Plan) {
		for _, src := range ends {
			for _, dst := range ends {
				for _, lane := range []int{-1, 0, 1, 2, 3} {
					x := api.Packet{Src: src, Dst: dst, Lane: lane, Body: 1<<31 + 9}
					if src < 0 || src >= p.Nodes || dst < 0 || dst >= p.Nodes || src == dst || lane < 0 || lane >= p.Lanes {
						wantInject(t, f, x, api.ErrArg)
						continue
					}
					wantInject(t, f, x, api.OK)
					if got, ok := f.Node(src).Host().Next(lane); !ok || got != x {
						t.Fatalf("at node %d waits %v, want %v", src, got, x)
					}
				}
			}
		}
		wantUntouched(t, f, p)
	})
}

// TestInjectWhereItIsFull: each lane of each host takes as many as its queue has room, and what is wrong is so there too.
func TestInjectWhereItIsFull(t *testing.T) {
	everyPlan(t, func(f *Fabric, p api.Plan) {
		for v := range p.Nodes {
			for lane := range p.Lanes {
				x := api.Packet{Src: v, Dst: (v + 1) % p.Nodes, Lane: lane}
				for range p.Queue {
					wantInject(t, f, x, api.OK)
				}
				wantInject(t, f, x, api.ErrBack)
				for _, wrong := range []api.Packet{{Src: p.Nodes, Dst: v, Lane: lane}, {Src: -1, Dst: v, Lane: lane}, {Src: v, Dst: v, Lane: lane}, {Src: v, Dst: -1, Lane: lane}} {
					wantInject(t, f, wrong, api.ErrArg)
				}
				if got := f.Node(v).Host().Waits(lane); got != p.Queue {
					t.Fatalf("at node %d %d wait, want %d", v, got, p.Queue)
				}
			}
		}
	})
}

// TestDeliver lays what may come on each link, and looks that it came to the node to which that leads, from the one from which.
func TestDeliver(t *testing.T) {
	for _, p := range plans(t) {
		for h, hop := range hopsOf(p) {
			for lane := range p.Lanes {
				f, want := begun(t, p), begun(t, p)
				b := encoded(t, data(lane, p.Start, hop.From, hop.To, 77))
				f.Link(h).Send(b)
				wantDeliver(t, f, h, 0, api.OK)
				want.Node(hop.To).Take(hop.From, b)
				if got := f.Node(hop.To).Receiver(portTo(p, hop.To, hop.From), lane).Held(); got != 1 {
					t.Fatalf("%v, lane %d: %d came", hop, lane, got)
				}
				wantSame(t, p, f, want)
			}
		}
	}
}

// TestDeliverTellsTheNodesError; what is refused is on the link no more.
func TestDeliverTellsTheNodesError(t *testing.T) {
	everyPlan(t, func(f *Fabric, p api.Plan) {
		for h, hop := range hopsOf(p) {
			deliver := func(b []byte, want api.Errno) {
				t.Helper()
				f.Link(h).Send(b)
				wantDeliver(t, f, h, 0, want)
				wantOnLink(t, f, h)
				wantDeliver(t, f, h, 0, api.ErrArg)
			}
			deliver(nil, api.ErrFrame)
			deliver([]byte{1, 2, 3}, api.ErrFrame)
			deliver(encoded(t, data(0, p.Start, hop.From, hop.To, 1)), api.OK)
			deliver(encoded(t, data(0, p.Start, hop.From, hop.To, 1)), api.ErrStale)
			deliver(encoded(t, data(0, p.Start+uint16(p.Room), hop.From, hop.To, 1)), api.ErrOver)
			deliver(encoded(t, api.Frame{Kind: api.Credit, Seq: p.Start}), api.OK)
			deliver(encoded(t, api.Frame{Kind: api.Resync, Seq: p.Start}), api.OK)
			if p.Lanes < 3 {
				deliver(encoded(t, api.Frame{Kind: api.Credit, Lane: 2, Seq: p.Start}), api.ErrFrame)
			}
			if p.Nodes < 6 {
				deliver(encoded(t, data(0, p.Start, hop.From, 5, 1)), api.ErrFrame)
			}
		}
	})
}

// TestDeliverOfOneAmongMany takes each place of a row, and none where there is none.
func TestDeliverOfOneAmongMany(t *testing.T) {
	p := pair(t)
	p.Room = 8
	var row [][]byte
	for k := range 5 {
		row = append(row, encoded(t, data(0, uint16(k), 0, 1, uint32(k))))
	}
	for k := range row {
		f := begun(t, p)
		for _, b := range row {
			f.Link(0).Send(b)
			f.Link(1).Send([]byte{9})
		}
		for _, none := range append([]int{5, 6, 19, 20, 21}, far...) {
			wantDeliver(t, f, 0, none, api.ErrArg)
		}
		wantOnLink(t, f, 0, row...)
		wantDeliver(t, f, 0, k, api.OK)
		wantOnLink(t, f, 0, slices.Delete(slices.Clone(row), k, k+1)...)
		if got := len(f.Link(1).All()); got != 5 {
			t.Errorf("on the other link are %d, want 5", got)
		}
		if r := f.Node(1).Receiver(1, 0); r.Expects() != uint64(k)+1 || r.Held() != 1 {
			t.Errorf("%d-th: it expects %d", k, r.Expects())
		}
	}
}

// TestTick holds what is on links against what nodes of their own let out.
func TestTick(t *testing.T) {
	everyPlan(t, func(f *Fabric, p api.Plan) {
		var nodes []*node.Node
		for v := range p.Nodes {
			nodes = append(nodes, node.New(p, v))
			for lane := range p.Lanes {
				for k := range p.Queue {
					x := api.Packet{Src: v, Dst: (v + 1 + k%(p.Nodes-1)) % p.Nodes, Lane: lane, Body: uint32(k)}
					wantInject(t, f, x, api.OK)
					nodes[v].Inject(x)
				}
			}
		}
		onWay := map[api.Hop][][]byte{}
		lost := 0
		for tick := 1; tick <= 40; tick++ {
			f.Tick()
			for v, n := range nodes {
				for _, out := range n.Tick() {
					hop := api.Hop{From: v, To: out.To}
					if len(onWay[hop]) == p.Bag {
						lost++
						continue
					}
					onWay[hop] = append(onWay[hop], out.B)
				}
			}
			for h, hop := range hopsOf(p) {
				wantOnLink(t, f, h, onWay[hop]...)
			}
			if f.Ticks() != tick {
				t.Fatalf("%d ticks, want %d", f.Ticks(), tick)
			}
		}
		for v := range p.Nodes {
			wantSameNode(t, p, v, f.Node(v), nodes[v])
		}
		if lost == 0 && p.Bag < 64 {
			t.Error("all found room")
		}
	})
}

// TestRound is a tick, and then all that is on its way comes, also what was there before, and what is refused.
func TestRound(t *testing.T) {
	everyPlan(t, func(f *Fabric, p api.Plan) {
		want := begun(t, p)
		for k := range 30 {
			for _, g := range []*Fabric{f, want} {
				g.Inject(api.Packet{Src: k % p.Nodes, Dst: (k + 1 + k/7) % p.Nodes, Lane: k % 3, Body: uint32(k)})
				if k%5 == 4 {
					g.Tick()
					g.Link(k % 2).Send([]byte{1, 2, 3})
					g.Link(k % 2).Twice(0)
				}
			}
			f.Round()
			want.Tick()
			for h := range hopsOf(p) {
				for range len(want.Link(h).All()) {
					want.Deliver(h, 0)
				}
			}
			for h := range hopsOf(p) {
				wantOnLink(t, f, h)
			}
			wantSame(t, p, f, want)
		}
		if got := f.Ticks(); got != 36 {
			t.Fatalf("%d ticks, want 36", got)
		}
	})
}

// TestRoundDeliversTheFirstOnesFirst: of two blocks on a link both come, as they would not, were the later one first.
func TestRoundDeliversTheFirstOnesFirst(t *testing.T) {
	f := begun(t, pair(t))
	for k := range 2 {
		wantInject(t, f, api.Packet{Src: 0, Dst: 1, Body: uint32(k)}, api.OK)
		f.Tick()
	}
	rounds(f, 3)
	wantGot(t, f, 1, api.Packet{Src: 0, Dst: 1, Body: 0}, api.Packet{Src: 0, Dst: 1, Body: 1})
	late := begun(t, pair(t))
	for k := range 2 {
		wantInject(t, late, api.Packet{Src: 0, Dst: 1, Body: uint32(k)}, api.OK)
		late.Tick()
	}
	wantDeliver(t, late, 0, 1, api.OK)
	wantDeliver(t, late, 0, 0, api.ErrStale)
	rounds(late, 3)
	wantGot(t, late, 1, api.Packet{Src: 0, Dst: 1, Body: 1})
}

// TestOneHopARound: what goes over three hops is let out at the end in the round behind the third.
func TestOneHopARound(t *testing.T) {
	f := begun(t, laid(t, pair(t), 0, 1, 2))
	x := api.Packet{Src: 3, Dst: 0, Body: 5}
	wantInject(t, f, x, api.OK)
	for range 3 {
		f.Round()
		wantGot(t, f, 0)
	}
	f.Round()
	wantGot(t, f, 0, x)
}

// TestLinksThatOthersChange: what their calls do is so for the fabric.
func TestLinksThatOthersChange(t *testing.T) {
	f := begun(t, pair(t))
	wantInject(t, f, api.Packet{Src: 1, Dst: 0, Body: 8}, api.OK)
	f.Tick()
	b := encoded(t, data(0, 0, 1, 0, 8))
	wantOnLink(t, f, 1, b)
	l := f.Link(1)
	for k := range 3 {
		if !l.Twice(k) {
			t.Fatal("Twice")
		}
	}
	l.Take(2)
	l.Bend(1, 3, 4)
	l.Send(encoded(t, data(0, 1, 1, 0, 9)))
	wantDeliver(t, f, 1, 1, api.ErrFrame)
	wantDeliver(t, f, 1, 1, api.OK)
	wantDeliver(t, f, 1, 0, api.ErrStale)
	wantDeliver(t, f, 1, 0, api.OK)
	wantDeliver(t, f, 1, 0, api.ErrArg)
	f.Tick()
	f.Tick()
	wantGot(t, f, 0, api.Packet{Src: 1, Dst: 0, Body: 8}, api.Packet{Src: 1, Dst: 0, Body: 9})
}

// TestHandedInIsNeitherChangedNorKept bends the plan behind the call, and holds the fabric against one whose was left alone.
func TestHandedInIsNeitherChangedNorKept(t *testing.T) {
	everyPlan(t, func(twin *Fabric, p api.Plan) {
		mine := deepClone(p)
		f := begun(t, mine)
		if !same(mine, p) {
			t.Fatalf("plan is %+v, it was %+v", mine, p)
		}
		spoil(mine)
		if !same(f.Plan(), p) || !slices.Equal(f.Hops(), hopsOf(p)) {
			t.Fatalf("Plan is %+v now, want %+v", f.Plan(), p)
		}
		s := steps(5)
		for k := range 40 {
			x := api.Packet{Src: s.below(p.Nodes), Dst: s.below(p.Nodes), Lane: s.below(p.Lanes), Body: uint32(k)}
			wantInject(t, f, x, twin.Inject(x))
			f.Round()
			twin.Round()
			wantSame(t, p, f, twin)
		}
	})
}

// spoil writes all lists of a plan, up to their capacity.
func spoil(p api.Plan) {
	for i := range p.Next[:cap(p.Next)] {
		row := p.Next[:cap(p.Next)][i]
		for k := range row[:cap(row)] {
			row[:cap(row)][k] = 99
		}
		p.Next[:cap(p.Next)][i] = nil
	}
	for i := range p.Edges[:cap(p.Edges)] {
		p.Edges[:cap(p.Edges)][i] = api.Edge{A: 99, B: 99}
	}
	for i := range p.Weights[:cap(p.Weights)] {
		p.Weights[:cap(p.Weights)][i] = 99
	}
}

// TestWhatComesOutIsNew writes all that was told, up to its capacity, and looks whether the fabric, or what was told before, is another one.
func TestWhatComesOutIsNew(t *testing.T) {
	everyPlan(t, func(f *Fabric, p api.Plan) {
		for k := range 20 {
			f.Inject(api.Packet{Src: k % p.Nodes, Dst: (k + 1) % p.Nodes, Body: uint32(k)})
			f.Round()
		}
		plan, hops, got := f.Plan(), f.Hops(), f.Got(1)
		if len(got) == 0 {
			t.Fatal("nothing came")
		}
		were := slices.Clone(got)
		spoil(f.Plan())
		clear(f.Hops())
		other := f.Got(1)
		for i := range other[:cap(other)] {
			other[:cap(other)][i] = api.Packet{Src: 99}
		}
		if !same(plan, p) || !same(f.Plan(), p) || !slices.Equal(hops, hopsOf(p)) || !slices.Equal(f.Hops(), hopsOf(p)) || !slices.Equal(got, were) {
			t.Fatal("two answers share memory")
		}
		wantGot(t, f, 1, were...)
		f.Round()
	})
}

// TestBehindLists: nothing that lay behind those of a plan comes out behind those of the fabric's.
func TestBehindLists(t *testing.T) {
	p := laid(t, pair(t), 0, 0, 0)
	junk := deepClone(p)
	junk.Edges = append(junk.Edges, api.Edge{A: 77, B: 77})[:len(p.Edges)]
	junk.Weights = append(junk.Weights, 77)[:len(p.Weights)]
	for v := range junk.Next {
		junk.Next[v] = append(junk.Next[v], 77)[:p.Nodes]
	}
	junk.Next = append(junk.Next, []int{77})[:p.Nodes]
	f := begun(t, junk)
	if junk.Next[:p.Nodes+1][p.Nodes][0] != 77 || junk.Edges[:4][3].A != 77 {
		t.Error("what lay behind the plan's lists is written")
	}
	got := f.Plan()
	if !same(got, p) {
		t.Fatalf("Plan is %+v, want %+v", got, p)
	}
	for _, e := range got.Edges[len(got.Edges):cap(got.Edges)] {
		if e.A == 77 {
			t.Error("an edge of behind")
		}
	}
	for _, row := range append(slices.Clone(got.Next), got.Weights) {
		if slices.Contains(row[len(row):cap(row)], 77) {
			t.Error("a number of behind")
		}
	}
	for _, row := range got.Next[len(got.Next):cap(got.Next)] {
		if row != nil {
			t.Error("a row of behind")
		}
	}
}

// TestFabricsKnowNothingOfEachOther, though they be of one plan.
func TestFabricsKnowNothingOfEachOther(t *testing.T) {
	everyPlan(t, func(one *Fabric, p api.Plan) {
		two := begun(t, p)
		for k := range 20 {
			one.Inject(api.Packet{Src: k % p.Nodes, Dst: (k + 1) % p.Nodes, Body: uint32(k)})
			one.Round()
			one.Tick()
		}
		wantUntouched(t, two, p)
		wantUntouched(t, begun(t, p), p)
	})
}

func TestFabricsSideBySide(t *testing.T) {
	p := ring(api.Plan{Lanes: 2, Room: 3, Queue: 8, Rounds: 2, Every: 3, Bag: 30, Weights: []int{1, 2}})
	var joined sync.WaitGroup
	ends := make([][]api.Packet, 8)
	for i := range ends {
		joined.Go(func() {
			f, _ := New(p)
			for k := range 300 {
				f.Inject(api.Packet{Src: k % 4, Dst: k / 4 % 4, Lane: k % 2, Body: uint32(k)})
				f.Round()
			}
			for v := range p.Nodes {
				ends[i] = append(ends[i], f.Got(v)...)
			}
		})
	}
	joined.Wait()
	for _, end := range ends {
		if len(end) == 0 || !slices.Equal(end, ends[0]) {
			t.Error("fabrics were told something else")
		}
	}
}

func rounds(f *Fabric, n int) {
	for range n {
		f.Round()
	}
}
