package watch

import (
	"bytes"
	"slices"
	"testing"

	"shunter/api"
	"shunter/fabric"
	"shunter/serial"
	"shunter/tree"
	"shunter/wire"
)

// steps are numbers in no simple order.
type steps uint64

func (s *steps) below(n int) int {
	*s = *s*6364136223846793005 + 1442695040888963407
	return int(*s>>33) % n
}

func randomPlan(s *steps) api.Plan {
	p := api.Plan{Lanes: 1 + s.below(3), Room: 1 + s.below(8), Queue: 1 + s.below(8), Rounds: 1 + s.below(4), Every: 1 + s.below(8), Bag: 1 + s.below(64), Start: uint16(s.below(65536))}
	if s.below(2) == 0 {
		p.Start = uint16(s.below(40)) - 20
	}
	for range p.Lanes {
		p.Weights = append(p.Weights, 1+s.below(5))
	}
	if s.below(4) == 0 {
		return full(p, 2+s.below(5))
	}
	var parents []int
	for range 1 + s.below(5) {
		parents = append(parents, s.below(len(parents)+1))
	}
	p, _ = tree.Lay(p, parents)
	return p
}

// entry is a frame on a link, with the bytes as they were sent, and the number that it tells, which is never a short one here.
type entry struct {
	was, is []byte
	number  uint64
}

func (e entry) kind() uint8 { return e.was[0] }

func (e entry) lane() int { return int(e.was[1]) }

func (e entry) bent() bool { return !bytes.Equal(e.was, e.is) }

// book is of a lane of a link: how many were sent, up to which may be sent, which is expected, and which came.
type book struct {
	sent, limit, next uint64
	came              []uint64
}

// ledger writes down what befalls the blocks of a fabric, by numbers that are never short: it reads what the nodes send, and is told what happens to it.
type ledger struct {
	*fabric.Fabric
	p        api.Plan
	hops     []api.Hop
	rows     [][]entry
	books    [][]book
	injected int
	wiped    int // how many packets went out where the link had no more room
}

func ledgerOf(t *testing.T, p api.Plan) *ledger {
	t.Helper()
	l := &ledger{Fabric: begun(t, p), p: p, hops: hopsOf(p)}
	l.rows = make([][]entry, len(l.hops))
	for range l.hops {
		row := make([]book, p.Lanes)
		for lane := range row {
			row[lane] = book{sent: uint64(p.Start), limit: uint64(p.Start) + uint64(p.Room), next: uint64(p.Start)}
		}
		l.books = append(l.books, row)
	}
	return l
}

func (l *ledger) back(h int) int {
	return slices.Index(l.hops, api.Hop{From: l.hops[h].To, To: l.hops[h].From})
}

// held is how many are in the rings of the node to which a link leads, from it, in a lane.
func (l *ledger) held(h, lane int) int {
	hop, all := l.hops[h], 0
	for out := range len(beside(l.p, hop.To)) + 1 {
		all += len(l.Node(hop.To).Rings().All(portTo(l.p, hop.To, hop.From), out, lane))
	}
	return all
}

// most is up to which number the end of a link has room.
func (l *ledger) most(h, lane int) uint64 {
	return l.books[h][lane].next + uint64(l.p.Room-l.held(h, lane))
}

func (l *ledger) inject(x api.Packet) bool {
	ok := l.Inject(x) == api.OK
	if ok {
		l.injected++
	}
	return ok
}

// tick reads what is new on each link; what found no room there is sent too: of the lane that has one number more.
func (l *ledger) tick(t *testing.T) {
	t.Helper()
	l.Tick()
	for h := range l.hops {
		for _, b := range l.Link(h).All()[len(l.rows[h]):] {
			e := entry{was: b, is: bytes.Clone(b)}
			k := &l.books[h][e.lane()]
			switch e.kind() {
			case api.Data:
				e.number = k.sent
				k.sent++
			case api.Resync:
				e.number = k.sent
			case api.Credit:
				e.number = l.most(l.back(h), e.lane())
			}
			if short := uint16(b[2])<<8 | uint16(b[3]); short != uint16(e.number) {
				t.Fatalf("%x went out, which tells %d", b, e.number)
			}
			l.rows[h] = append(l.rows[h], e)
		}
		l.unseen(h)
	}
}

// unseen finds what went out, and was on no link.
func (l *ledger) unseen(h int) {
	hop := l.hops[h]
	for lane := range l.p.Lanes {
		sent := l.Node(hop.From).Sender(portTo(l.p, hop.From, hop.To), lane).Sent()
		l.wiped += int(sent - l.books[h][lane].sent)
		l.books[h][lane].sent = sent
	}
}

func (l *ledger) deliver(t *testing.T, h, k int) {
	t.Helper()
	err := l.Deliver(h, k)
	if k < 0 || k >= len(l.rows[h]) {
		return
	}
	e := l.rows[h][k]
	l.rows[h] = slices.Delete(l.rows[h], k, k+1)
	b := &l.books[h][e.lane()]
	switch {
	case e.bent():
		if err != api.ErrFrame {
			t.Fatalf("%x is taken: %d", e.is, err)
		}
	case e.kind() == api.Data && e.number < b.next:
		if err != api.ErrStale {
			t.Fatalf("%d is taken, %d is expected: %d", e.number, b.next, err)
		}
	case err != api.OK:
		t.Fatalf("%x is refused: %d", e.is, err)
	case e.kind() == api.Data:
		b.next = e.number + 1
		b.came = append(b.came, e.number)
	case e.kind() == api.Resync:
		b.next = max(b.next, e.number)
	case e.kind() == api.Credit:
		other := &l.books[l.back(h)][e.lane()]
		other.limit = max(other.limit, e.number)
	}
}

func (l *ledger) round(t *testing.T) {
	t.Helper()
	l.tick(t)
	for h := range l.hops {
		for range len(l.rows[h]) {
			l.deliver(t, h, 0)
		}
	}
}

func (l *ledger) lose(h, k int) {
	if _, ok := l.Link(h).Take(k); ok {
		l.rows[h] = slices.Delete(l.rows[h], k, k+1)
	}
}

func (l *ledger) double(h, k int) {
	if l.Link(h).Twice(k) {
		e := l.rows[h][k]
		l.rows[h] = append(l.rows[h], entry{e.was, bytes.Clone(e.is), e.number})
	}
}

func (l *ledger) bend(h, k, at int, x byte) {
	if l.Link(h).Bend(k, at, x) {
		is := l.rows[h][k].is
		is[at%len(is)] ^= x
	}
}

// flying are the numbers of a lane that are on a link, were sent, and may come yet, rising.
func (l *ledger) flying(h, lane int) []uint64 {
	var all []uint64
	for _, e := range l.rows[h] {
		if !e.bent() && e.kind() == api.Data && e.lane() == lane && e.number >= l.books[h][lane].next {
			all = append(all, e.number)
		}
	}
	slices.Sort(all)
	return slices.Compact(all)
}

func (l *ledger) account(h, lane int) api.Account {
	b, flying := l.books[h][lane], l.flying(h, lane)
	a := api.Account{
		Usable: int(b.limit - b.sent),
		Late:   int(l.most(h, lane) - b.limit),
		Flying: len(flying),
		Held:   l.held(h, lane),
	}
	for n := b.next; n < b.sent; n++ {
		if !slices.Contains(flying, n) {
			a.Lost++
		}
	}
	return a
}

// inside goes through all packets.
func (l *ledger) inside() int {
	all := 0
	for v := range l.p.Nodes {
		ports := len(beside(l.p, v)) + 1
		for lane := range l.p.Lanes {
			all += l.Node(v).Host().Waits(lane)
			for in := range ports {
				for out := range ports {
					all += len(l.Node(v).Rings().All(in, out, lane))
				}
			}
		}
	}
	for h := range l.hops {
		for lane := range l.p.Lanes {
			all += len(l.flying(h, lane))
		}
	}
	return all
}

// given is how many blocks are given up: they did not come, and will not.
func (l *ledger) given() int {
	all := 0
	for h := range l.hops {
		for _, b := range l.books[h] {
			all += int(b.next-uint64(l.p.Start)) - len(b.came)
		}
	}
	return all
}

func (l *ledger) came() int {
	all := 0
	for v := range l.p.Nodes {
		all += len(l.Got(v))
	}
	return all
}

// stands holds behind any steps: each account is as it is written down, nothing of it is below 0, all of it comes to the room, and each packet is inside, came, or is lost.
func (l *ledger) stands(t *testing.T) {
	t.Helper()
	var want []api.Account
	lost := 0
	for h := range l.hops {
		for lane := range l.p.Lanes {
			a := l.account(h, lane)
			wantAccount(t, l.Fabric, h, lane, a)
			if min(a.Usable, a.Late, a.Flying, a.Held, a.Lost) < 0 || a.Usable+a.Late+a.Flying+a.Held+a.Lost != l.p.Room {
				t.Fatalf("%+v: link %d, lane %d: %+v", l.p, h, lane, a)
			}
			want = append(want, a)
			lost += a.Lost
		}
	}
	wantAll(t, l.Fabric, want...)
	wantInside(t, l.Fabric, l.inside())
	if got := l.came() + Inside(l.Fabric) + lost + l.given(); got != l.injected {
		t.Fatalf("%+v: of %d packets %d are somewhere: %d came, %d are inside, %d lost, %d given up", l.p, l.injected, got, l.came(), Inside(l.Fabric), lost, l.given())
	}
}

// step does something, to a link of the fabric's and one of its frames, most often.
func (l *ledger) step(t *testing.T, s *steps) {
	t.Helper()
	h := s.below(len(l.hops))
	k := s.below(len(l.rows[h])+2) - 1
	switch s.below(16) {
	case 0, 1, 2, 3, 4:
		v := s.below(l.p.Nodes)
		l.inject(api.Packet{Src: v, Dst: (v + 1 + s.below(l.p.Nodes-1)) % l.p.Nodes, Lane: s.below(l.p.Lanes), Body: uint32(s.below(100))})
	case 5:
		l.inject(api.Packet{Src: s.below(8) - 1, Dst: s.below(8) - 1, Lane: s.below(5) - 1})
	case 6, 7, 8:
		l.deliver(t, h, k)
	case 9:
		l.lose(h, k)
	case 10:
		l.double(h, k)
	case 11:
		l.bend(h, k, s.below(30)-2, byte(s.below(256)))
	case 12:
		l.round(t)
	default:
		l.tick(t)
	}
}

// TestAgainstALedger looks, too, that each place of an account has had something often.
func TestAgainstALedger(t *testing.T) {
	s, wiped := steps(18), 0
	var seen api.Account
	for range 100 {
		l := ledgerOf(t, randomPlan(&s))
		for range 200 {
			l.step(t, &s)
			l.stands(t)
			for _, a := range All(l.Fabric) {
				seen.Usable += min(a.Usable, 1)
				seen.Late += min(a.Late, 1)
				seen.Flying += min(a.Flying, 1)
				seen.Held += min(a.Held, 1)
				seen.Lost += min(a.Lost, 1)
			}
		}
		wiped += l.wiped
	}
	if min(seen.Usable, seen.Late, seen.Flying, seen.Held, seen.Lost, 100*wiped) < 5000 {
		t.Errorf("too few: %+v, and %d that found no room", seen, wiped)
	}
}

// told is an account in the chapter's words, of links on which anything may have been laid.
func told(t *testing.T, f *fabric.Fabric, p api.Plan, h, lane int) api.Account {
	t.Helper()
	hop := hopsOf(p)[h]
	s := f.Node(hop.From).Sender(portTo(p, hop.From, hop.To), lane)
	r := f.Node(hop.To).Receiver(portTo(p, hop.To, hop.From), lane)
	var all []uint64
	for _, b := range f.Link(h).All() {
		g, err := wire.Decode(b)
		if err != api.OK || g.Kind != api.Data || int(g.Lane) != lane {
			continue
		}
		if n := serial.Widen(r.Expects(), g.Seq); r.Expects() <= n && n < s.Sent() {
			all = append(all, n)
		}
	}
	slices.Sort(all)
	flying := len(slices.Compact(all))
	return api.Account{Usable: s.Usable(), Late: int(r.Limit()) - int(s.Limit()), Flying: flying, Held: r.Held(), Lost: int(s.Sent()) - int(r.Expects()) - flying}
}

func wantTold(t *testing.T, f *fabric.Fabric, p api.Plan) {
	t.Helper()
	var want []api.Account
	for h := range hopsOf(p) {
		for lane := range p.Lanes {
			want = append(want, told(t, f, p, h, lane))
			wantAccount(t, f, h, lane, want[len(want)-1])
		}
	}
	wantAll(t, f, want...)
}

// FuzzSteps does any steps: a byte says what, and those behind it to whom, and how. Of what others lay on links some is a frame.
func FuzzSteps(f *testing.F) {
	f.Add(uint64(1), []byte{0, 0, 1, 0, 7, 0, 0, 0, 7, 0, 0, 0, 6, 0, 0, 0})
	f.Add(uint64(9), []byte{0, 1, 0, 0, 0, 1, 0, 1, 6, 0, 0, 0, 6, 0, 0, 0, 3, 0, 0, 0, 7, 0, 0, 0})
	f.Add(uint64(40), []byte{0, 0, 1, 0, 6, 0, 0, 0, 5, 0, 0, 7, 1, 0, 0, 0, 2, 1, 2, 3, 4, 0, 0, 0, 1, 0, 1, 0, 1, 200, 255, 0})
	f.Add(uint64(0), []byte{})
	f.Fuzz(func(t *testing.T, seed uint64, bytes []byte) {
		s := steps(seed)
		p := randomPlan(&s)
		g := begun(t, p)
		hops := len(hopsOf(p))
		for four := range slices.Chunk(bytes[:len(bytes)/4*4], 4) {
			h, k := int(four[1])%hops, int(int8(four[2]))
			switch four[0] % 8 {
			case 0:
				g.Inject(api.Packet{Src: int(int8(four[1])), Dst: int(int8(four[2])), Lane: int(int8(four[3])), Body: uint32(four[3])})
			case 1:
				g.Deliver(int(int8(four[1])), k)
			case 2:
				b := four
				if x := (api.Frame{Kind: four[0]/8%3 + 1, Lane: four[1] % 3, Seq: p.Start + uint16(k)}); x.Kind != api.Data {
					b = encoded(t, x)
				} else if x.Src, x.Dst = four[3]%6, four[3]/6%6; x.Src != x.Dst {
					b = encoded(t, x)
				}
				g.Link(h).Send(b)
			case 3:
				g.Link(h).Take(k)
			case 4:
				g.Link(h).Twice(k)
			case 5:
				g.Link(h).Bend(k, int(int8(four[3])), four[3])
			case 6:
				g.Tick()
			default:
				g.Round()
			}
			wantTold(t, g, p)
		}
		wantNone(t, g, hops, 0)
		wantNone(t, g, 0, p.Lanes)
	})
}
