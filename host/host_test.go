package host

import (
	"math"
	"slices"
	"sync"
	"testing"

	"shunter/api"
)

// nowhere are numbers that are no lane's of any host.
var nowhere = []int{-1, -2, -3, -4, -8, -255, -256, -257, 3, 4, 5, 7, 8, 9, 16, 64, 255, 256, 257, 258, 65535, 65536, 65537, 1<<31 - 1, 1 << 31, 1 << 32, 1<<32 + 1, 1<<32 + 2, -1 << 31, -1 << 32, -1<<32 + 1, math.MaxInt, math.MaxInt - 1, math.MinInt, math.MinInt + 1, math.MinInt + 2}

// packet is one of a lane that is like no other one.
func packet(n, lane int) api.Packet {
	return api.Packet{Src: 3*n + 1, Dst: -n - 1, Lane: lane, Body: uint32(n)*2654435761 + 1}
}

// packets are those of these numbers, in a lane.
func packets(from, to, lane int) []api.Packet {
	var all []api.Packet
	for n := from; n < to; n++ {
		all = append(all, packet(n, lane))
	}
	return all
}

// others are numbers that are no lane's of a host of so many.
func others(lanes int) []int {
	all := slices.Clone(nowhere)
	for lane := lanes; lane < 3; lane++ {
		all = append(all, lane)
	}
	return all
}

// begun is a host that there must be, in which nothing waits, and to which nothing came.
func begun(t *testing.T, lanes, queue int) *Host {
	t.Helper()
	h := New(lanes, queue)
	if h == nil {
		t.Fatalf("New(%d, %d) = nil", lanes, queue)
	}
	for lane := range lanes {
		wantNone(t, h, lane)
	}
	wantGot(t, h)
	return h
}

// everyHost plays with a new host of each kind that there may be.
func everyHost(t *testing.T, play func(h *Host, lanes, queue int)) {
	t.Helper()
	for lanes := 1; lanes <= 3; lanes++ {
		for queue := 1; queue <= 8; queue++ {
			play(begun(t, lanes, queue), lanes, queue)
		}
	}
}

// wantWaits asks more than once, for to ask is to change nothing.
func wantWaits(t *testing.T, h *Host, lane, want int) {
	t.Helper()
	for range 2 {
		if got := h.Waits(lane); got != want {
			t.Fatalf("Waits(%d) = %d, want %d", lane, got, want)
		}
	}
}

func wantGot(t *testing.T, h *Host, want ...api.Packet) {
	t.Helper()
	for range 2 {
		if got := h.Got(); !slices.Equal(got, want) {
			t.Fatalf("Got() = %v, want %v", got, want)
		}
	}
}

// wantNone asks all that is asked of a lane, of one in which nothing waits, or that there is not.
func wantNone(t *testing.T, h *Host, lane int) {
	t.Helper()
	for range 2 {
		wantWaits(t, h, lane, 0)
		if x, ok := h.Next(lane); ok || x != (api.Packet{}) {
			t.Fatalf("Next(%d) = %v, %v, want nothing, false", lane, x, ok)
		}
	}
}

func wantPut(t *testing.T, h *Host, xs ...api.Packet) {
	t.Helper()
	for _, x := range xs {
		waits := h.Waits(x.Lane)
		if err := h.Put(x); err != api.OK {
			t.Fatalf("%d wait: Put(%v) = %d, want 0", waits, x, err)
		}
		wantWaits(t, h, x.Lane, waits+1)
	}
}

// wantNoPut says that a packet is refused, and that this changes nothing.
func wantNoPut(t *testing.T, h *Host, x api.Packet, want api.Errno) {
	t.Helper()
	waits := h.Waits(x.Lane)
	for range 2 {
		if err := h.Put(x); err != want {
			t.Fatalf("%d wait: Put(%v) = %d, want %d", waits, x, err, want)
		}
		wantWaits(t, h, x.Lane, waits)
	}
}

func wantNext(t *testing.T, h *Host, lane int, want ...api.Packet) {
	t.Helper()
	for _, x := range want {
		waits := h.Waits(lane)
		if got, ok := h.Next(lane); !ok || got != x {
			t.Fatalf("%d wait: Next(%d) = %v, %v, want %v, true", waits, lane, got, ok, x)
		}
		wantWaits(t, h, lane, waits-1)
	}
}

// TestExample is the chapter's.
func TestExample(t *testing.T) {
	h := begun(t, 1, 1)
	wantPut(t, h, packet(1, 0))
	wantNoPut(t, h, packet(2, 0), api.ErrBack)
	wantNext(t, h, 0, packet(1, 0))
	wantPut(t, h, packet(3, 0))
	wantNext(t, h, 0, packet(3, 0))
	wantNone(t, h, 0)
	wantGot(t, h)
}

func TestErrorsAreTheirNumbers(t *testing.T) {
	h := begun(t, 1, 1)
	for i, want := range []api.Errno{0, 150, 150} {
		if got := h.Put(api.Packet{}); got != want {
			t.Errorf("time %d: Put = %d, want %d", i, got, want)
		}
	}
	if got := h.Put(api.Packet{Lane: 1}); got != 1 {
		t.Errorf("Put of lane 1 = %d, want 1", got)
	}
}

func TestHostsThatThereAreNot(t *testing.T) {
	wantNoHost := func(lanes, queue int) {
		t.Helper()
		if New(lanes, queue) != nil {
			t.Errorf("New(%d, %d) is a host", lanes, queue)
		}
	}
	for _, n := range append([]int{0}, nowhere...) {
		for m := 1; m <= 8; m++ {
			if n != 3 {
				wantNoHost(n, m)
			}
			if m <= 3 && (n < 1 || n > 8) {
				wantNoHost(m, n)
			}
		}
		if n != 3 {
			wantNoHost(n, n)
		}
	}
	for lanes := 4; lanes <= 8; lanes++ {
		wantNoHost(lanes, 3)
	}
}

// TestInItsOrder fills one lane with as many as may wait, and empties it, more than once, while the others stay empty.
func TestInItsOrder(t *testing.T) {
	everyHost(t, func(h *Host, lanes, queue int) {
		for lane := range lanes {
			for round := range 3 {
				all := packets(100*round, 100*round+queue, lane)
				wantPut(t, h, all...)
				wantNoPut(t, h, packet(77, lane), api.ErrBack)
				for other := range lanes {
					if other != lane {
						wantNone(t, h, other)
					}
				}
				wantNext(t, h, lane, all...)
				wantNone(t, h, lane)
			}
		}
	})
}

// TestGoesRound keeps a lane as full as it is, put and taken by turns.
func TestGoesRound(t *testing.T) {
	everyHost(t, func(_ *Host, lanes, queue int) {
		for there := 1; there <= queue; there++ {
			h := begun(t, lanes, queue)
			lane := lanes - 1
			wantPut(t, h, packets(0, there, lane)...)
			for n := range 4*queue + 3 {
				wantNext(t, h, lane, packet(n, lane))
				wantPut(t, h, packet(n+there, lane))
			}
			wantPut(t, h, packets(500, 500+queue-there, lane)...)
			wantNoPut(t, h, packet(77, lane), api.ErrBack)
		}
	})
}

// TestLanesAreTheirOwn: it is those of one lane that are counted, not those of all.
func TestLanesAreTheirOwn(t *testing.T) {
	everyHost(t, func(h *Host, lanes, queue int) {
		for n := range queue {
			for lane := range lanes {
				wantPut(t, h, packet(10*n+lane, lane))
			}
		}
		for full := range lanes {
			for lane := range lanes {
				wantNoPut(t, h, packet(77, lane), api.ErrBack)
			}
			wantNext(t, h, full, packet(full, full))
			wantPut(t, h, packet(10*queue+full, full))
		}
		for lane := lanes - 1; lane >= 0; lane-- {
			for n := 1; n <= queue; n++ {
				wantNext(t, h, lane, packet(10*n+lane, lane))
			}
			wantNone(t, h, lane)
		}
	})
}

// TestLanesThatThereAreNot: a packet of one is refused as that, be the others empty or full, and changes nothing.
func TestLanesThatThereAreNot(t *testing.T) {
	everyHost(t, func(h *Host, lanes, queue int) {
		refuses := func() {
			t.Helper()
			for _, lane := range others(lanes) {
				wantNoPut(t, h, packet(77, lane), api.ErrArg)
				wantNone(t, h, lane)
			}
		}
		refuses()
		for lane := range lanes {
			wantNone(t, h, lane)
			wantPut(t, h, packets(0, queue, lane)...)
		}
		refuses()
		for lane := range lanes {
			wantNext(t, h, lane, packets(0, queue, lane)...)
			wantNone(t, h, lane)
		}
		wantGot(t, h)
	})
}

// ends are packets with any fields; of those the lane is given, or else is any too.
func ends(lane ...int) []api.Packet {
	far := append([]int{0, 1, 2}, nowhere...)
	all := []api.Packet{}
	for i, n := range far {
		for _, body := range []uint32{0, 1, 1 << 31, math.MaxUint32} {
			x := api.Packet{Src: n, Dst: far[len(far)-1-i], Lane: n, Body: body}
			if len(lane) > 0 {
				x.Lane = lane[0]
			}
			all = append(all, x)
		}
	}
	return all
}

// TestAnyFields: of what waits a host looks at the lane alone, whoever sends it to whom; of what came at nothing.
func TestAnyFields(t *testing.T) {
	everyHost(t, func(h *Host, lanes, _ int) {
		lane := lanes - 1
		for _, x := range ends(lane) {
			wantPut(t, h, x)
			wantNext(t, h, lane, x)
		}
		for i, x := range ends() {
			h.Eject(x)
			wantGot(t, h, ends()[:i+1]...)
		}
		wantNone(t, h, lane)
	})
}

// TestNoughtsAreAPacket: one all of whose fields are noughts waits, and comes, like any other.
func TestNoughtsAreAPacket(t *testing.T) {
	h := begun(t, 1, 2)
	wantPut(t, h, api.Packet{}, api.Packet{})
	wantNoPut(t, h, api.Packet{}, api.ErrBack)
	wantNext(t, h, 0, api.Packet{}, api.Packet{})
	wantNone(t, h, 0)
	h.Eject(api.Packet{})
	h.Eject(api.Packet{})
	wantGot(t, h, api.Packet{}, api.Packet{})
}

// TestSameIsNotOnce: who waits, or came, more than once does so as often as that.
func TestSameIsNotOnce(t *testing.T) {
	h := begun(t, 2, 8)
	x, y := packet(1, 1), packet(2, 1)
	wantPut(t, h, x, x, y, x)
	wantNext(t, h, 1, x, x, y, x)
	wantNone(t, h, 1)
	for _, z := range []api.Packet{x, x, y, x} {
		h.Eject(z)
	}
	wantGot(t, h, x, x, y, x)
}

// TestManyCome: queue bounds what waits alone.
func TestManyCome(t *testing.T) {
	h := begun(t, 1, 1)
	for n := range 5000 {
		h.Eject(packet(n, n%5-1))
	}
	got := h.Got()
	if len(got) != 5000 {
		t.Fatalf("%d came, want 5000", len(got))
	}
	for n, x := range got {
		if x != packet(n, n%5-1) {
			t.Fatalf("%d-th that came: %v, want %v", n, x, packet(n, n%5-1))
		}
	}
}

// TestWhatWaitsDidNotCome, nor does what came wait; it takes no room either, and what is taken out comes nowhere.
func TestWhatWaitsDidNotCome(t *testing.T) {
	everyHost(t, func(h *Host, lanes, queue int) {
		lane := lanes - 1
		came := packets(200, 200+2*queue, lane)
		for _, x := range came {
			h.Eject(x)
		}
		wantNone(t, h, lane)
		wantPut(t, h, packets(0, queue, lane)...)
		wantNoPut(t, h, packet(77, lane), api.ErrBack)
		wantGot(t, h, came...)
		h.Eject(packet(300, lane))
		wantWaits(t, h, lane, queue)
		wantNext(t, h, lane, packets(0, queue, lane)...)
		wantGot(t, h, append(came, packet(300, lane))...)
	})
}

// TestWhatComesOutIsNew writes what Got told, up to its capacity, and looks whether later steps write it.
func TestWhatComesOutIsNew(t *testing.T) {
	for n := range 20 {
		h := begun(t, 1, 1)
		want := packets(0, n, 0)
		for _, x := range want {
			h.Eject(x)
		}
		told, kept := h.Got(), h.Got()
		for i := range told[:cap(told)] {
			told[:cap(told)][i] = packet(500, 0)
		}
		wantGot(t, h, want...)
		h.Eject(packet(600, 0))
		if !slices.Equal(kept, want) {
			t.Fatalf("what was told is %v now, it was %v", kept, want)
		}
		for _, x := range told[:cap(told)] {
			if x != packet(500, 0) {
				t.Fatalf("what lies behind what was told is written: %v", x)
			}
		}
		wantGot(t, h, append(want, packet(600, 0))...)
	}
}

// TestNothingElseIsHandedOut: behind the length of what is told lies nothing that came, or waits.
func TestNothingElseIsHandedOut(t *testing.T) {
	h := begun(t, 1, 8)
	for n := range 20 {
		h.Put(packet(100+n, 0))
		h.Eject(packet(n, 0))
		got := h.Got()
		for _, x := range got[len(got):cap(got)] {
			if x != (api.Packet{}) {
				t.Fatalf("behind what is told lies %v", x)
			}
		}
	}
}

// TestHostsKnowNothingOfEachOther goes on with one of two that were given the same.
func TestHostsKnowNothingOfEachOther(t *testing.T) {
	one, two := begun(t, 2, 2), begun(t, 2, 2)
	wantPut(t, one, packets(0, 2, 1)...)
	one.Eject(packet(5, 0))
	wantNone(t, two, 1)
	wantGot(t, two)
	wantPut(t, two, packets(10, 12, 1)...)
	two.Eject(packet(6, 0))
	wantNext(t, one, 1, packets(0, 2, 1)...)
	wantNoPut(t, two, packet(77, 1), api.ErrBack)
	wantNext(t, two, 1, packets(10, 12, 1)...)
	wantGot(t, one, packet(5, 0))
	wantGot(t, two, packet(6, 0))
	begun(t, 2, 2)
}

func TestHostsSideBySide(t *testing.T) {
	var joined sync.WaitGroup
	ends := make([][]api.Packet, 8)
	for i := range ends {
		joined.Go(func() {
			h := New(3, 4)
			for n := range 2000 {
				h.Put(packet(n, n%4))
				if x, ok := h.Next(n * 7 % 5); ok {
					h.Eject(x)
				}
			}
			ends[i] = h.Got()
		})
	}
	joined.Wait()
	for _, end := range ends {
		if len(end) == 0 || !slices.Equal(end, ends[0]) {
			t.Error("hosts were told something else")
		}
	}
}
