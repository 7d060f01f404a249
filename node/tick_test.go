package node

import (
	"slices"
	"testing"

	"shunter/api"
)

// exchanged are a node's resyncs and credits, of all ports and lanes, after as many were sent and expected as the functions say.
func exchanged(p api.Plan, v int, sent, limit func(to, lane int) int) []going {
	var all []going
	for _, to := range beside(p, v) {
		for lane := range p.Lanes {
			all = append(all,
				going{to, resyncOf(uint8(lane), p.Start+uint16(sent(to, lane)))},
				going{to, creditOf(uint8(lane), p.Start+uint16(limit(to, lane)))})
		}
	}
	return all
}

// TestExchangeComesEveryFewTicks, and nothing else goes out, where there is nothing.
func TestExchangeComesEveryFewTicks(t *testing.T) {
	everyNode(t, func(_ *Node, p api.Plan, v int) {
		for every := 1; every <= 8; every++ {
			p.Every = every
			n := begun(t, p, v)
			all := exchanged(p, v, func(int, int) int { return 0 }, func(int, int) int { return p.Room })
			for tick := 1; tick <= 3*every+1; tick++ {
				if tick%every == 0 {
					wantTick(t, n, all...)
				} else {
					wantTick(t, n)
				}
			}
			wantUntouched(t, n, p, v)
		}
	})
}

// TestExchangeTellsOfItsOwnTick: a packet that came in goes out, and what is told of it in the same tick is how it stands behind that.
func TestExchangeTellsOfItsOwnTick(t *testing.T) {
	p := star(t, 2)
	p.Every, p.Start = 2, 65535
	n := begun(t, p, 0)
	wantTick(t, n)
	wantTake(t, n, 2, data(1, 0, 2, 1, 7), api.OK) // 65535 is lost
	wantTick(t, n,
		going{1, data(1, 65535, 2, 1, 7)},
		going{1, resyncOf(0, 65535)}, going{1, creditOf(0, 1)}, going{1, resyncOf(1, 0)}, going{1, creditOf(1, 1)},
		going{2, resyncOf(0, 65535)}, going{2, creditOf(0, 1)}, going{2, resyncOf(1, 65535)}, going{2, creditOf(1, 3)})
	wantTick(t, n)
	wantTake(t, n, 2, data(1, 1, 2, 0, 8), api.OK)
	wantTake(t, n, 2, data(1, 2, 2, 0, 9), api.OK)
	wantTake(t, n, 1, creditOf(1, 2), api.OK)
	wantTake(t, n, 1, resyncOf(0, 1), api.OK)
	wantTick(t, n,
		going{1, resyncOf(0, 65535)}, going{1, creditOf(0, 3)}, going{1, resyncOf(1, 0)}, going{1, creditOf(1, 1)},
		going{2, resyncOf(0, 65535)}, going{2, creditOf(0, 1)}, going{2, resyncOf(1, 65535)}, going{2, creditOf(1, 4)})
	wantGot(t, n, api.Packet{Src: 2, Dst: 0, Lane: 1, Body: 8})
}

// TestCreditEnds: one packet of a lane goes out in each tick, while there is credit.
func TestCreditEnds(t *testing.T) {
	everyNode(t, func(_ *Node, p api.Plan, v int) {
		p.Queue, p.Every = 8, 8
		near := beside(p, v)
		for i, to := range near {
			if p.Next[v][to] != to {
				continue
			}
			for lane := range p.Lanes {
				n := begun(t, p, v)
				for k := range 8 {
					wantInject(t, n, api.Packet{Src: v, Dst: to, Lane: lane, Body: uint32(k)}, api.OK)
				}
				out := func(k int) going {
					return going{to, data(uint8(lane), p.Start+uint16(k), uint8(v), uint8(to), uint32(k))}
				}
				for k := range min(p.Room, 7) {
					wantTick(t, n, out(k))
				}
				for range 7 - p.Room {
					wantTick(t, n)
				}
				if p.Room > 6 {
					continue
				}
				wantTake(t, n, to, creditOf(uint8(lane), p.Start+uint16(p.Room)+1), api.OK)
				want := append([]going{out(p.Room)}, exchanged(p, v,
					func(node, l int) int { return b2i(node == to && l == lane) * (p.Room + 1) },
					func(int, int) int { return p.Room })...)
				wantTick(t, n, want...)
				wantTick(t, n)
				if s := n.Sender(i+1, lane); s.Usable() != 0 || s.Sent() != uint64(p.Start)+uint64(p.Room)+1 {
					t.Fatalf("it has sent %d, and may send %d", s.Sent(), s.Usable())
				}
			}
		}
	})
}

// b2i is 1 for true.
func b2i(b bool) int {
	if b {
		return 1
	}
	return 0
}

// TestAdmits: in each lane one packet a tick, while fewer than Room are in, whichever way they go; what waits behind them waits at the host.
func TestAdmits(t *testing.T) {
	for room := 1; room <= 8; room++ {
		p := star(t, 4)
		p.Room, p.Lanes, p.Weights, p.Every, p.Queue = room, 3, []int{1, 1, 1}, 8, 8
		n := begun(t, p, 0)
		for port := 1; port <= 4; port++ {
			for lane := range 2 {
				for n.Sender(port, lane).Usable() > 0 {
					n.Sender(port, lane).Next()
				}
			}
		}
		for k := range 8 {
			for lane := range 2 {
				wantInject(t, n, api.Packet{Src: 0, Dst: 1 + k%4, Lane: lane, Body: uint32(k)}, api.OK)
			}
		}
		for tick := 1; tick < 8; tick++ {
			wantTick(t, n)
			in := min(tick, room)
			for lane := range 2 {
				if got := n.Host().Waits(lane); got != 8-in {
					t.Fatalf("room %d, tick %d, lane %d: %d wait, want %d", room, tick, lane, got, 8-in)
				}
				for port := 1; port <= 4; port++ {
					var want []api.Packet
					for k := port - 1; k < in; k += 4 {
						want = append(want, api.Packet{Src: 0, Dst: port, Lane: lane, Body: uint32(k)})
					}
					wantQueue(t, n, 0, port, lane, want...)
				}
			}
		}
	}
}

// TestAdmitsInFrontOfTheMatching: one that fills the room leaves in its own tick, and the next one comes in with the next.
func TestAdmitsInFrontOfTheMatching(t *testing.T) {
	p := star(t, 2)
	p.Room = 1
	n := begun(t, p, 0)
	for _, dst := range []int{1, 2, 1} {
		wantInject(t, n, api.Packet{Src: 0, Dst: dst, Lane: 1}, api.OK)
	}
	wantTick(t, n, going{1, data(1, 0, 0, 1, 0)})
	wantTick(t, n, going{2, data(1, 0, 0, 2, 0)})
	wantTick(t, n) // no credit: it is in, and stays
	wantQueue(t, n, 0, 1, 1, api.Packet{Src: 0, Dst: 1, Lane: 1})
	wantInject(t, n, api.Packet{Src: 0, Dst: 2, Lane: 1}, api.OK)
	wantTake(t, n, 2, creditOf(1, 2), api.OK)
	wantTick(t, n) // the one behind has credit, but not the room
	wantTake(t, n, 1, creditOf(1, 2), api.OK)
	wantTick(t, n, going{1, data(1, 1, 0, 1, 0)})
	wantTick(t, n, going{2, data(1, 1, 0, 2, 0)})
}

// TestOneAnInputAndOneAnOutput fills a node from all sides, and looks who gives, and who takes, in each tick.
func TestOneAnInputAndOneAnOutput(t *testing.T) {
	p := star(t, 3)
	p.Rounds, p.Every = 1, 8
	n := begun(t, p, 0)
	for from := 1; from <= 3; from++ {
		for lane := range uint8(2) {
			wantTake(t, n, from, data(lane, 0, uint8(from), uint8(from%3+1), 0), api.OK)
			wantTake(t, n, from, data(lane, 1, uint8(from), 0, 0), api.OK)
		}
	}
	there := func(in int) int {
		all := 0
		for out := range 4 {
			all += n.Rings().Len(in, out, 0) + n.Rings().Len(in, out, 1)
		}
		return all
	}
	for range 7 {
		before, came := [4]int{0, there(1), there(2), there(3)}, len(n.Host().Got())
		outs := frames(t, n.Tick())
		took := map[int]int{0: len(n.Host().Got()) - came}
		for _, out := range outs {
			took[out.to]++
		}
		all := 0
		for to, k := range took {
			if k > 1 {
				t.Fatalf("%d went to %d in one tick", k, to)
			}
			all += k
		}
		for in := 1; in <= 3; in++ {
			gave := before[in] - there(in)
			if gave < 0 || gave > 1 {
				t.Fatalf("port %d gave %d in one tick", in, gave)
			}
			all -= gave
		}
		if all != 0 {
			t.Fatal("not as many were taken as given")
		}
	}
	for in := range 4 {
		if there(in) != 0 {
			t.Fatalf("%d from port %d are there yet", there(in), in)
		}
	}
}

// TestOutputsTakeTurns: two inputs that ask for one output have it by turns, in the order of the arbiter, and what goes out is told by inputs.
func TestOutputsTakeTurns(t *testing.T) {
	p := star(t, 4)
	p.Room, p.Lanes, p.Weights = 2, 1, []int{1}
	n := begun(t, p, 0)
	for seq := range uint16(2) {
		wantTake(t, n, 4, data(0, seq, 4, 3, 40+uint32(seq)), api.OK)
		wantTake(t, n, 2, data(0, seq, 2, 3, 20+uint32(seq)), api.OK)
		wantTake(t, n, 3, data(0, seq, 3, 1, 30+uint32(seq)), api.OK)
		wantInject(t, n, api.Packet{Src: 0, Dst: 2 * (2 - int(seq)), Body: uint32(seq)}, api.OK)
	}
	wantTick(t, n, going{4, data(0, 0, 0, 4, 0)}, going{3, data(0, 0, 2, 3, 20)}, going{1, data(0, 0, 3, 1, 30)})
	wantTick(t, n, going{2, data(0, 0, 0, 2, 1)}, going{1, data(0, 1, 3, 1, 31)}, going{3, data(0, 1, 4, 3, 40)})
	wantTake(t, n, 3, creditOf(0, 4), api.OK)
	wantTick(t, n, going{3, data(0, 2, 2, 3, 21)})
	wantTick(t, n, going{3, data(0, 3, 4, 3, 41)})
	wantTick(t, n)
}

// TestRoundsAreThePlans: where all inputs ask for the same outputs, all of these grant one input in each round, so that each round finds one pair.
func TestRoundsAreThePlans(t *testing.T) {
	for rounds := 1; rounds <= 4; rounds++ {
		p := star(t, 5)
		p.Rounds, p.Room = rounds, 5
		n := begun(t, p, 0)
		var want []going
		for from := uint8(1); from <= 5; from++ {
			for seq := range uint16(5) {
				wantTake(t, n, int(from), data(0, seq, 0, uint8(seq)+1, uint32(from)), api.OK)
			}
			if int(from) <= rounds {
				want = append(want, going{int(from), data(0, 0, 0, from, uint32(from))})
			}
		}
		wantTick(t, n, want...)
	}
}

// TestLanesByWeights: an output's own wheel chooses its lanes, as often as their weights say; a lane that may not come now is passed by.
func TestLanesByWeights(t *testing.T) {
	p := star(t, 2)
	p.Lanes, p.Weights, p.Room, p.Every = 3, []int{1, 3, 2}, 8, 8
	n := begun(t, p, 0)
	for seq := range uint16(6) {
		for lane := range uint8(3) {
			wantTake(t, n, 1, data(lane, seq, 1, 2, uint32(seq)), api.OK)
			wantTake(t, n, 2, data(lane, seq, 2, 0, uint32(seq)), api.OK)
		}
	}
	var out, came []int
	for range 7 {
		for _, g := range frames(t, n.Tick()) {
			out = append(out, int(g.f.Lane))
		}
	}
	for _, x := range n.Host().Got() {
		came = append(came, x.Lane)
	}
	want := []int{0, 1, 2, 1, 2, 1, 2} // then all are left their weights again, behind the lane that came last
	if !slices.Equal(out, want) || !slices.Equal(came, want) {
		t.Fatalf("lanes %v went out, %v came, want %v", out, came, want)
	}
	for n.Sender(2, 0).Usable() > 0 {
		n.Sender(2, 0).Next()
	}
	outs := frames(t, n.Tick())
	if outs[0].f.Kind != api.Data || outs[0].f.Lane != 1 {
		t.Fatalf("lane 0 has no credit: %+v went out", outs[0])
	}
	got := n.Host().Got()
	if got[len(got)-1].Lane != 0 {
		t.Fatalf("%v came", got)
	}
}

// TestWheelsAreByOutputs: that lanes went out at one port says nothing of those at another.
func TestWheelsAreByOutputs(t *testing.T) {
	p := star(t, 2)
	n := begun(t, p, 0)
	for _, lane := range []int{0, 1} {
		wantInject(t, n, api.Packet{Src: 0, Dst: 1, Lane: lane}, api.OK)
		wantInject(t, n, api.Packet{Src: 0, Dst: 2, Lane: lane}, api.OK)
	}
	wantTick(t, n, going{1, data(0, 0, 0, 1, 0)})
	wantTick(t, n, going{2, data(0, 0, 0, 2, 0)})
	wantTick(t, n, going{1, data(1, 0, 0, 1, 0)})
	wantTick(t, n, going{2, data(1, 0, 0, 2, 0)})
}

// TestNumbersGoOnBehindTheLastShortOne: what is sent is counted from the beginning on, and told short.
func TestNumbersGoOnBehindTheLastShortOne(t *testing.T) {
	p := laid(t, api.Plan{Lanes: 1, Room: 4, Queue: 1, Rounds: 1, Every: 8, Bag: 1, Weights: []int{1}, Start: 65500}, 0)
	n := begun(t, p, 1)
	for k := range uint32(140000) {
		seq := 65500 + uint16(k)
		wantInject(t, n, api.Packet{Src: 1, Dst: 0, Body: k}, api.OK)
		wantTake(t, n, 0, data(0, seq, 0, 1, k), api.OK)
		outs := frames(t, n.Tick())
		if outs[0] != (going{0, data(0, seq, 1, 0, k)}) {
			t.Fatalf("%d-th: %+v", k, outs)
		}
		if len(outs) > 1 && (outs[1].f != resyncOf(0, seq+1) || outs[2].f != creditOf(0, seq+5)) {
			t.Fatalf("%d-th: %+v", k, outs)
		}
		wantTake(t, n, 0, creditOf(0, seq+5), api.OK)
	}
	if got := n.Sender(1, 0).Sent(); got != 65500+140000 {
		t.Fatalf("%d were sent", got)
	}
	for k, x := range n.Host().Got() {
		if x != (api.Packet{Src: 0, Dst: 1, Body: uint32(k)}) {
			t.Fatalf("%d-th that came: %v", k, x)
		}
	}
}

// TestWhatComesBackGoesBack: a packet for a node that lies where it came from goes out at the port by which it came in, with a number of its own.
func TestWhatComesBackGoesBack(t *testing.T) {
	p := star(t, 2)
	p.Start = 7
	n := begun(t, p, 1)
	wantTake(t, n, 0, data(1, 8, 1, 2, 5), api.OK)
	wantQueue(t, n, 1, 1, 1, api.Packet{Src: 1, Dst: 2, Lane: 1, Body: 5})
	wantTick(t, n, going{0, data(1, 7, 1, 2, 5)})
	if n.Receiver(1, 1).Held() != 0 {
		t.Fatal("it is held yet")
	}
}
