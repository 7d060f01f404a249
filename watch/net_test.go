package watch

import (
	"slices"
	"testing"

	"shunter/api"
	"shunter/route"
)

// enough is a bag in which all that goes out in two ticks finds room: nothing is lost for want of it.
const enough = 14

// fill injects as much as all hosts take, and tells how many moves there could be of it: each packet is let in, goes over each link of its way, and out.
func (l *ledger) fill(s *steps) int {
	moves := 0
	for v := range l.p.Nodes {
		for lane := range l.p.Lanes {
			for range l.p.Queue {
				x := api.Packet{Src: v, Dst: (v + 1 + s.below(l.p.Nodes-1)) % l.p.Nodes, Lane: lane, Body: uint32(l.injected)}
				if l.inject(x) {
					moves += len(route.Path(l.p, x.Src, x.Dst)) + 1
				}
			}
		}
	}
	return moves
}

// drain goes on for as many rounds as there could be moves, each of which may have to wait for an exchange, and behind two more, for all that was lost to be found.
func (l *ledger) drain(t *testing.T, moves int) {
	t.Helper()
	for left := (moves + 2) * (l.p.Every + 1); Inside(l.Fabric) > 0; left-- {
		if left == 0 {
			t.Fatalf("%+v: %d are inside yet", l.p, Inside(l.Fabric))
		}
		l.round(t)
		l.stands(t)
	}
}

// exchange goes on until each node has told each other one so often where its ends stand; nothing is then anywhere.
func (l *ledger) exchange(t *testing.T, times int) {
	t.Helper()
	for range times * l.p.Every {
		l.round(t)
		l.stands(t)
	}
	wantAll(t, l.Fabric, slices.Repeat([]api.Account{{Usable: l.p.Room}}, len(l.hops)*l.p.Lanes)...)
	wantInside(t, l.Fabric, 0)
}

// TestAllComes where nothing is lost, late or bent: no block of any lane ever is.
func TestAllComes(t *testing.T) {
	s := steps(3)
	for i := range 40 {
		p := randomPlan(&s)
		if i < len(plans(t)) {
			p = plans(t)[i]
		}
		p.Bag = max(p.Bag, enough)
		l := ledgerOf(t, p)
		moves := 0
		for range 10 {
			moves += l.fill(&s)
			l.tick(t)
			wantNoneLost(t, l)
			for h := range l.hops {
				for range len(l.rows[h]) {
					l.deliver(t, h, 0)
				}
			}
			l.stands(t)
			wantNoneLost(t, l)
		}
		l.drain(t, moves)
		if l.came() != l.injected {
			t.Fatalf("%+v: %d came, %d were injected", p, l.came(), l.injected)
		}
		l.exchange(t, 2)
	}
}

func wantNoneLost(t *testing.T, l *ledger) {
	t.Helper()
	for i, a := range All(l.Fabric) {
		if a.Lost != 0 {
			t.Fatalf("%+v: account %d of all: %+v", l.p, i, a)
		}
	}
}

// TestNothingLeaks: whatever was lost, behind a few exchanges no block is, and no limit late, so that all comes again.
func TestNothingLeaks(t *testing.T) {
	s, lost := steps(4), 0
	for i := range 40 {
		p := randomPlan(&s)
		if i < len(plans(t)) {
			p = plans(t)[i]
		}
		p.Bag = max(p.Bag, enough)
		l := ledgerOf(t, p)
		l.fill(&s)
		for range 150 {
			l.step(t, &s)
		}
		l.stands(t)
		l.round(t)
		l.drain(t, l.injected*(api.MaxNodes+1))
		l.exchange(t, 3)
		lost += l.given()
		given := l.given()
		l.drain(t, l.fill(&s))
		l.exchange(t, 2)
		if l.given() != given || l.came()+given != l.injected {
			t.Fatalf("%+v: %d came, %d were lost, %d injected", p, l.came(), l.given(), l.injected)
		}
	}
	if lost == 0 {
		t.Error("nothing was lost")
	}
}

// TestShortNumbersGoRound: far more is sent over one link than short numbers there are, while an old block stands on it. It flies when its short number is that of a block that was sent and may come yet, for nobody can tell these from one another.
func TestShortNumbersGoRound(t *testing.T) {
	const start = 65000
	p := laid(t, api.Plan{Lanes: 1, Room: 8, Queue: 8, Rounds: 1, Every: 1, Bag: 40, Weights: []int{1}, Start: start}, 0)
	f := begun(t, p)
	next := func() {
		inject(t, f, api.Packet{Src: 0, Dst: 1})
		f.Tick()
	}
	come := func() {
		for h := range 2 {
			for range f.Link(h).All()[1-h:] {
				deliver(t, f, h, 1-h)
			}
		}
	}
	next()
	if !f.Link(0).Twice(0) {
		t.Fatal("nothing was doubled")
	}
	deliver(t, f, 0, 0)
	for f.Link(0).All()[0][0] != api.Data { // the older ones are those of the exchange
		deliver(t, f, 0, 0)
	}
	wantAccount(t, f, 0, 0, api.Account{Usable: 7, Held: 1})
	for k := range 65535 {
		next()
		a, _ := Account(f, 0, 0)
		if a.Flying != 1 || a.Lost != 0 || Inside(f) < 1 {
			t.Fatalf("behind %d: %+v", k, a)
		}
		come()
		if a, _ = Account(f, 0, 0); a.Flying != 0 || a.Lost != 0 {
			t.Fatalf("behind %d, that came: %+v", k, a)
		}
	}
	if sent := f.Node(0).Sender(1, 0).Sent(); sent != start+65536 {
		t.Fatalf("%d are sent", sent)
	}
	next()
	lose(t, f, 0, 1)
	if a, _ := Account(f, 0, 0); a.Flying != 1 || a.Lost != 0 {
		t.Fatalf("%+v", a)
	}
	lose(t, f, 0, 0)
	if a, _ := Account(f, 0, 0); a.Flying != 0 || a.Lost != 1 {
		t.Fatalf("%+v", a)
	}
}
