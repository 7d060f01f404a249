package watch

import (
	"math"
	"slices"
	"testing"

	"shunter/api"
	"shunter/fabric"
	"shunter/tree"
	"shunter/wire"
)

// far are numbers that are no link's and no lane's of any plan.
var far = []int{-1, -2, -3, -30, -64, -256, -257, 30, 64, 65, 100, 255, 256, 257, 65535, 65536, 65537, 1<<31 - 1, 1 << 31, 1 << 32, 1<<32 + 1, -1 << 31, -1 << 32, -1<<32 + 1, math.MaxInt, math.MaxInt - 1, math.MinInt, math.MinInt + 1}

// laid is the plan of a tree, of which all other numbers are those of p.
func laid(t *testing.T, p api.Plan, parents ...int) api.Plan {
	t.Helper()
	p, err := tree.Lay(p, parents)
	if err != api.OK {
		t.Fatalf("no tree: %v", parents)
	}
	return p
}

// pair is a plan of two nodes, with so much room, that begins at a number.
func pair(t *testing.T, room int, start uint16) api.Plan {
	t.Helper()
	return laid(t, api.Plan{Lanes: 1, Room: room, Queue: 8, Rounds: 1, Every: 8, Bag: 40, Weights: []int{1}, Start: start}, 0)
}

// full is a plan with an edge between each two nodes, and ways of one hop.
func full(p api.Plan, nodes int) api.Plan {
	p.Nodes, p.Edges, p.Next = nodes, nil, make([][]int, nodes)
	for v := range p.Next {
		for w := range p.Next {
			p.Next[v] = append(p.Next[v], w)
			if v < w {
				p.Edges = append(p.Edges, api.Edge{A: v, B: w})
			}
		}
	}
	return p
}

// plans have all bounds at their ends, more than one shape, and beginnings on both sides of where short numbers begin again.
func plans(t *testing.T) []api.Plan {
	t.Helper()
	least := api.Plan{Lanes: 1, Room: 1, Queue: 1, Rounds: 1, Every: 1, Bag: 1, Weights: []int{1}}
	most := api.Plan{Lanes: 3, Room: 8, Queue: 8, Rounds: 4, Every: 8, Bag: 64, Weights: []int{5, 5, 5}, Start: 65535}
	mixed := api.Plan{Lanes: 3, Room: 2, Queue: 4, Rounds: 2, Every: 3, Bag: 20, Weights: []int{1, 2, 3}, Start: 65530}
	two := api.Plan{Lanes: 2, Room: 3, Queue: 2, Rounds: 3, Every: 2, Bag: 9, Weights: []int{4, 1}, Start: 32767}
	return []api.Plan{
		laid(t, least, 0), laid(t, most, 0), laid(t, mixed, 0, 0, 1), laid(t, two, 0, 1, 2, 3, 4),
		laid(t, mixed, 0, 0, 0, 0, 0), full(most, 6), full(mixed, 4), full(least, 5), laid(t, most, 0, 1, 1, 1, 1),
	}
}

// begun is a fabric that there must be.
func begun(t *testing.T, p api.Plan) *fabric.Fabric {
	t.Helper()
	f, err := fabric.New(p)
	if f == nil || err != api.OK {
		t.Fatalf("New(%+v) = %v, %d", p, f, err)
	}
	return f
}

// hopsOf are all links, from each node on, in order.
func hopsOf(p api.Plan) []api.Hop {
	var all []api.Hop
	for v := range p.Nodes {
		for _, w := range beside(p, v) {
			all = append(all, api.Hop{From: v, To: w})
		}
	}
	return all
}

func beside(p api.Plan, v int) []int {
	var all []int
	for w := range p.Nodes {
		if slices.Contains(p.Edges, api.Edge{A: v, B: w}) || slices.Contains(p.Edges, api.Edge{A: w, B: v}) {
			all = append(all, w)
		}
	}
	return all
}

// portTo is the port of v that leads to w.
func portTo(p api.Plan, v, w int) int { return 1 + slices.Index(beside(p, v), w) }

func encoded(t *testing.T, f api.Frame) []byte {
	t.Helper()
	b, err := wire.Encode(f)
	if err != api.OK {
		t.Fatalf("Encode(%+v) = %d", f, err)
	}
	return b
}

func data(lane int, seq uint16, body uint32) api.Frame {
	return api.Frame{Kind: api.Data, Lane: uint8(lane), Seq: seq, Src: 0, Dst: 1, Body: body}
}

func send(t *testing.T, f *fabric.Fabric, h int, b []byte) {
	t.Helper()
	if !f.Link(h).Send(b) {
		t.Fatalf("link %d takes no more", h)
	}
}

func inject(t *testing.T, f *fabric.Fabric, x api.Packet) {
	t.Helper()
	if err := f.Inject(x); err != api.OK {
		t.Fatalf("Inject(%v) = %d", x, err)
	}
}

func deliver(t *testing.T, f *fabric.Fabric, h, k int) {
	t.Helper()
	if err := f.Deliver(h, k); err != api.OK {
		t.Fatalf("Deliver(%d, %d) = %d", h, k, err)
	}
}

func lose(t *testing.T, f *fabric.Fabric, h, k int) {
	t.Helper()
	if _, ok := f.Link(h).Take(k); !ok {
		t.Fatalf("link %d has no frame %d", h, k)
	}
}

func wantAccount(t *testing.T, f *fabric.Fabric, h, lane int, want api.Account) {
	t.Helper()
	if got, ok := Account(f, h, lane); got != want || !ok {
		t.Fatalf("Account(%d, %d) = %+v, %v, want %+v", h, lane, got, ok, want)
	}
}

func wantNone(t *testing.T, f *fabric.Fabric, h, lane int) {
	t.Helper()
	if got, ok := Account(f, h, lane); got != (api.Account{}) || ok {
		t.Fatalf("Account(%d, %d) = %+v, %v, want none", h, lane, got, ok)
	}
}

func wantAll(t *testing.T, f *fabric.Fabric, want ...api.Account) {
	t.Helper()
	if got := All(f); !slices.Equal(got, want) {
		t.Fatalf("All = %+v, want %+v", got, want)
	}
}

func wantInside(t *testing.T, f *fabric.Fabric, want int) {
	t.Helper()
	if got := Inside(f); got != want {
		t.Fatalf("Inside = %d, want %d", got, want)
	}
}

func TestExample(t *testing.T) {
	for _, start := range []uint16{0, 1, 32767, 32768, 65535} {
		f := begun(t, pair(t, 2, start))
		inject(t, f, api.Packet{Src: 0, Dst: 1, Body: 7})
		wantAll(t, f, api.Account{Usable: 2}, api.Account{Usable: 2})
		wantInside(t, f, 1)
		f.Tick()
		wantAccount(t, f, 0, 0, api.Account{Usable: 1, Flying: 1})
		wantAll(t, f, api.Account{Usable: 1, Flying: 1}, api.Account{Usable: 2})
		wantInside(t, f, 1)
	}
}

// TestExamplesOfTheWhole are the document's 2 to 4: a block is lost, found again, and what waited behind it comes.
func TestExamplesOfTheWhole(t *testing.T) {
	f := begun(t, pair(t, 1, 0))
	inject(t, f, api.Packet{Src: 0, Dst: 1, Body: 1})
	inject(t, f, api.Packet{Src: 0, Dst: 1, Body: 2})
	f.Tick()
	f.Tick()
	wantAccount(t, f, 0, 0, api.Account{Flying: 1})
	wantInside(t, f, 2)
	lose(t, f, 0, 0)
	wantAccount(t, f, 0, 0, api.Account{Lost: 1})
	wantInside(t, f, 1)
	for range 6 {
		f.Round()
	}
	wantAccount(t, f, 0, 0, api.Account{Late: 1})
	wantInside(t, f, 1)
	for range 10 {
		f.Round()
	}
	wantAccount(t, f, 0, 0, api.Account{Late: 1})
	wantInside(t, f, 0)
	if got := f.Got(1); len(got) != 1 || got[0].Body != 2 {
		t.Errorf("%v came", got)
	}
}

// TestOneBlock goes with a block from where it waits to where it came, and has its link's account all the while.
func TestOneBlock(t *testing.T) {
	f := begun(t, pair(t, 3, 65535))
	idle := api.Account{Usable: 3}
	inject(t, f, api.Packet{Src: 1, Dst: 0, Body: 7})
	wantAll(t, f, idle, idle)
	wantInside(t, f, 1)
	f.Tick()
	wantAll(t, f, idle, api.Account{Usable: 2, Flying: 1})
	wantInside(t, f, 1)
	deliver(t, f, 1, 0)
	wantAll(t, f, idle, api.Account{Usable: 2, Held: 1})
	wantInside(t, f, 1)
	for range 6 {
		f.Tick()
		wantAll(t, f, idle, api.Account{Usable: 2, Late: 1})
		wantInside(t, f, 0)
	}
	f.Tick()
	deliver(t, f, 0, 0) // where node 0's lane stands, which tells node 1 nothing
	wantAll(t, f, idle, api.Account{Usable: 2, Late: 1})
	deliver(t, f, 0, 0)
	wantAll(t, f, idle, idle)
	wantInside(t, f, 0)
}

// TestEachPlaceOfAnAccount has them all in one: of a room of 8 some are usable, late, flying, held and lost.
func TestEachPlaceOfAnAccount(t *testing.T) {
	for _, start := range []uint16{0, 5, 32760, 32768, 65530, 65535} {
		p := laid(t, api.Plan{Lanes: 2, Room: 8, Queue: 8, Rounds: 1, Every: 8, Bag: 40, Weights: []int{1, 1}, Start: start}, 0, 1)
		f := begun(t, p)
		for k := range 7 {
			inject(t, f, api.Packet{Src: 0, Dst: 2, Lane: 1, Body: uint32(k)})
		}
		for range 3 {
			f.Tick()
		}
		deliver(t, f, 0, 0) // 0 comes to node 1
		lose(t, f, 0, 0)    // 1 is lost
		f.Tick()            // 0 goes on to node 2
		deliver(t, f, 0, 0) // 2 comes to node 1
		f.Tick()
		f.Tick()
		deliver(t, f, 0, 0) // 3 comes to node 1
		lose(t, f, 0, 1)    // 5 is lost
		wantAccount(t, f, 0, 0, api.Account{Usable: 8})
		wantAccount(t, f, 0, 1, api.Account{Usable: 2, Late: 3, Flying: 1, Held: 1, Lost: 1})
		wantAccount(t, f, 1, 1, api.Account{Usable: 8})
		wantAccount(t, f, 2, 1, api.Account{Usable: 6, Flying: 2})
		wantInside(t, f, 5) // one at host 0, one in node 1, one on the first link, two on the next
	}
}

// TestWhatFlies lays on a link whatever may stand there: only blocks that were sent and may come yet fly, each number once.
func TestWhatFlies(t *testing.T) {
	for _, start := range []uint16{0, 3, 32765, 32768, 65532, 65535} {
		f := begun(t, pair(t, 8, start))
		for k := range 8 {
			inject(t, f, api.Packet{Src: 0, Dst: 1, Body: uint32(k)})
		}
		for range 6 {
			f.Tick()
		}
		for range 2 {
			deliver(t, f, 0, 0)
		}
		for range 4 {
			lose(t, f, 0, 0)
		}
		lost := api.Account{Usable: 2, Held: 2, Lost: 4}
		wantAccount(t, f, 0, 0, lost)
		for _, b := range nothingFlies(t, start) {
			send(t, f, 0, b)
			wantAccount(t, f, 0, 0, lost)
			if len(f.Link(0).All()) > 20 {
				lose(t, f, 0, 0)
			}
		}
		wantAccount(t, f, 1, 0, api.Account{Usable: 8})
		wantInside(t, f, 4)
		for k, want := range []api.Account{
			{Usable: 2, Held: 2, Lost: 3, Flying: 1}, {Usable: 2, Held: 2, Lost: 2, Flying: 2},
			{Usable: 2, Held: 2, Lost: 1, Flying: 3}, {Usable: 2, Held: 2, Flying: 4},
		} {
			seq := start + 5 - uint16(k)
			for _, other := range []api.Frame{data(0, seq, 7), data(0, seq, 7), data(0, seq, 9), {Kind: api.Data, Seq: seq, Src: 5, Dst: 4}} {
				send(t, f, 0, encoded(t, other))
				wantAccount(t, f, 0, 0, want)
			}
			wantInside(t, f, 4+want.Flying)
		}
	}
}

// nothingFlies are bytes that stand for no block of lane 0 of which the numbers from start + 2 on, below start + 6, may come yet.
func nothingFlies(t *testing.T, start uint16) [][]byte {
	t.Helper()
	all := [][]byte{nil, {}, {1}, {1, 0, 0, 0}, make([]byte, 12), make([]byte, 13)}
	for _, off := range []int{1, 0, -1, -2, -100, -32766, -32767, 6, 7, 8, 100, 32767, 32768, 32769} {
		all = append(all, encoded(t, data(0, start+uint16(off), 7)))
	}
	for k := range uint16(8) {
		seq := start + k
		all = append(all,
			encoded(t, data(1, seq, 7)), encoded(t, data(2, seq, 7)),
			encoded(t, api.Frame{Kind: api.Credit, Seq: seq}), encoded(t, api.Frame{Kind: api.Resync, Seq: seq}))
	}
	for at := range 12 {
		b := encoded(t, data(0, start+3, 7))
		b[at] ^= 1 << (at % 8)
		all = append(all, b)
	}
	b := encoded(t, data(0, start+3, 7))
	return append(all, b[:11], append(b[:12:12], 0), b[1:])
}

// TestLanesOnOneLink: blocks of each lane fly in their own.
func TestLanesOnOneLink(t *testing.T) {
	f := begun(t, laid(t, api.Plan{Lanes: 3, Room: 4, Queue: 8, Rounds: 1, Every: 8, Bag: 40, Weights: []int{1, 2, 3}, Start: 65534}, 0))
	for lane := range 3 {
		for k := range lane + 1 {
			inject(t, f, api.Packet{Src: 0, Dst: 1, Lane: lane, Body: uint32(k)})
		}
	}
	for range 6 {
		f.Tick()
	}
	wantAll(t, f,
		api.Account{Usable: 3, Flying: 1}, api.Account{Usable: 2, Flying: 2}, api.Account{Usable: 1, Flying: 3},
		api.Account{Usable: 4}, api.Account{Usable: 4}, api.Account{Usable: 4})
	wantInside(t, f, 6)
}

func TestLinksAndLanesThatThereAreNot(t *testing.T) {
	for _, p := range plans(t) {
		f := begun(t, p)
		hops := len(hopsOf(p))
		for h := range hops {
			for lane := range p.Lanes {
				wantAccount(t, f, h, lane, api.Account{Usable: p.Room})
			}
			for lane := p.Lanes; lane < 10; lane++ {
				wantNone(t, f, h, lane)
			}
			for _, lane := range far {
				wantNone(t, f, h, lane)
				wantNone(t, f, lane, lane)
				wantNone(t, f, lane, h)
			}
		}
		for lane := range p.Lanes {
			wantNone(t, f, hops, lane)
			for _, h := range far {
				wantNone(t, f, h, lane)
			}
		}
		if got, want := len(All(f)), hops*p.Lanes; got != want {
			t.Fatalf("%d accounts, want %d", got, want)
		}
		wantInside(t, f, 0)
	}
}

// TestInsideCountsEachPlace: at each host, in each lane, and in each queue of each node; what came does not count.
func TestInsideCountsEachPlace(t *testing.T) {
	for _, p := range plans(t) {
		for v := range p.Nodes {
			for d := range p.Nodes {
				for lane := range p.Lanes {
					if v == d {
						continue
					}
					f := begun(t, p)
					inject(t, f, api.Packet{Src: v, Dst: d, Lane: lane, Body: 7})
					for len(f.Got(d)) == 0 {
						wantInside(t, f, 1)
						f.Round()
					}
					wantInside(t, f, 0)
				}
			}
		}
	}
}

// TestAnswersAreNewMemory, and what is done to them changes nothing.
func TestAnswersAreNewMemory(t *testing.T) {
	f := begun(t, laid(t, api.Plan{Lanes: 2, Room: 2, Queue: 4, Rounds: 1, Every: 4, Bag: 20, Weights: []int{1, 1}}, 0))
	inject(t, f, api.Packet{Src: 0, Dst: 1, Lane: 1, Body: 7})
	f.Tick()
	want := []api.Account{{Usable: 2}, {Usable: 1, Flying: 1}, {Usable: 2}, {Usable: 2}}
	for range 3 {
		got := All(f)
		if !slices.Equal(got, want) {
			t.Fatalf("All = %+v, want %+v", got, want)
		}
		clear(got[:cap(got)])
	}
	wantInside(t, f, 1)
}

// TestFarAhead lays limits on a link that nobody told, so that far more is sent than may come: short numbers are those near to what is expected, and reach no further.
func TestFarAhead(t *testing.T) {
	const start, many = 65000, 33000
	f := begun(t, pair(t, 8, start))
	for k := range many {
		inject(t, f, api.Packet{Src: 0, Dst: 1})
		send(t, f, 1, encoded(t, api.Frame{Kind: api.Credit, Seq: uint16(start + k + 8)}))
		deliver(t, f, 1, len(f.Link(1).All())-1)
		f.Tick()
		for h := range 2 {
			for range f.Link(h).All() {
				lose(t, f, h, 0)
			}
		}
	}
	gone := api.Account{Usable: 7, Late: 1 - many, Lost: many}
	wantAccount(t, f, 0, 0, gone)
	for _, off := range []int{32768, 32769, many - 1, many, many + 1, -1, -2, -30000} {
		send(t, f, 0, encoded(t, data(0, uint16(start+off), 7)))
		wantAccount(t, f, 0, 0, gone)
	}
	for k, off := range []int{0, 1, 30000, 32766, 32767} {
		send(t, f, 0, encoded(t, data(0, uint16(start+off), 7)))
		wantAccount(t, f, 0, 0, api.Account{Usable: 7, Late: 1 - many, Flying: k + 1, Lost: many - k - 1})
	}
}
