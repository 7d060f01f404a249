package rings

import (
	"math"
	"slices"
	"testing"

	"shunter/api"
)

// shape is how many ports, lanes and slots rings have.
type shape struct {
	ports, lanes, slots int
}

// shapes are the least, the greatest, and some between.
var shapes = []shape{{1, 1, 1}, {1, 1, 200}, {1, 3, 2}, {2, 1, 2}, {2, 2, 7}, {3, 3, 16}, {5, 2, 120}, {16, 1, 1}, {16, 3, 3}, {16, 3, 199}, {16, 3, 200}}

// nowhere are numbers that are no port's and no lane's, whatever rings they are.
var nowhere = []int{-1, -2, -3, -15, -16, -17, -256, 16, 17, 18, 31, 32, 255, 256, 257, 65535, 65536, 1<<31 - 1, 1 << 31, 1 << 32, 1<<32 + 1, -1 << 31, -1 << 32, math.MaxInt, math.MaxInt - 1, math.MinInt, math.MinInt + 1}

// packet is one that is like no other one, in each of its fields.
func packet(n int) api.Packet {
	return api.Packet{Src: 3*n + 1, Dst: -n - 1, Lane: n<<32 + 1, Body: uint32(n)*2654435761 + 1}
}

// packets are those of these numbers.
func packets(from, to int) []api.Packet {
	var all []api.Packet
	for n := from; n < to; n++ {
		all = append(all, packet(n))
	}
	return all
}

// places are all queues of a shape.
func (s shape) places() []place {
	var all []place
	for in := range s.ports {
		for out := range s.ports {
			for lane := range s.lanes {
				all = append(all, place{in, out, lane})
			}
		}
	}
	return all
}

// none are places of a shape at which there is no queue: in each of the three numbers one that is too small or too great, the other two at their edges.
func (s shape) none() []place {
	last := place{s.ports - 1, s.ports - 1, s.lanes - 1}
	all := []place{{s.ports, 0, 0}, {0, s.ports, 0}, {0, 0, s.lanes}, {s.ports, s.ports, s.lanes}, {-1, -1, -1}}
	for _, n := range append([]int{s.ports, s.ports + 1}, nowhere...) {
		all = append(all, place{n, 0, 0}, place{n, last.out, last.lane}, place{0, n, 0}, place{last.in, n, last.lane})
	}
	for _, n := range append([]int{s.lanes, s.lanes + 1, s.ports*s.lanes + 3}, nowhere...) {
		all = append(all, place{0, 0, n}, place{last.in, last.out, n})
	}
	return all
}

// begun are rings that there must be, all empty.
func begun(t *testing.T, s shape) *Rings {
	t.Helper()
	r := New(s.ports, s.lanes, s.slots)
	if r == nil {
		t.Fatalf("New(%d, %d, %d) = nil", s.ports, s.lanes, s.slots)
	}
	for _, at := range s.places() {
		wantEmpty(t, r, at)
	}
	return r
}

// wantQueue asks more than once, for to ask is to change nothing.
func wantQueue(t *testing.T, r *Rings, at place, want ...api.Packet) {
	t.Helper()
	for range 2 {
		if got := r.Len(at.in, at.out, at.lane); got != len(want) {
			t.Fatalf("%v: Len = %d, want %d", at, got, len(want))
		}
		if got := r.All(at.in, at.out, at.lane); !slices.Equal(got, want) {
			t.Fatalf("%v: All = %v, want %v", at, got, want)
		}
		got, ok := r.Head(at.in, at.out, at.lane)
		if len(want) == 0 && (ok || got != api.Packet{}) {
			t.Fatalf("%v: Head = %v, %v, want nothing, false", at, got, ok)
		}
		if len(want) > 0 && (!ok || got != want[0]) {
			t.Fatalf("%v: Head = %v, %v, want %v, true", at, got, ok, want[0])
		}
	}
}

// wantEmpty asks all that is asked of a queue, of one that has nothing, or is none.
func wantEmpty(t *testing.T, r *Rings, at place) {
	t.Helper()
	for range 2 {
		wantQueue(t, r, at)
		if got, ok := r.Pop(at.in, at.out, at.lane); ok || got != (api.Packet{}) {
			t.Fatalf("%v: Pop = %v, %v, want nothing, false", at, got, ok)
		}
	}
}

func wantPush(t *testing.T, r *Rings, at place, xs ...api.Packet) {
	t.Helper()
	for _, x := range xs {
		was := r.All(at.in, at.out, at.lane)
		if !r.Push(at.in, at.out, at.lane, x) {
			t.Fatalf("%v: Push = false, %d there", at, len(was))
		}
		wantQueue(t, r, at, append(was, x)...)
	}
}

func wantNoPush(t *testing.T, r *Rings, at place) {
	t.Helper()
	was := r.All(at.in, at.out, at.lane)
	for _, x := range []api.Packet{packet(9999), {}} {
		if r.Push(at.in, at.out, at.lane, x) {
			t.Fatalf("%v: Push = true, %d there", at, len(was))
		}
		wantQueue(t, r, at, was...)
	}
}

func wantPop(t *testing.T, r *Rings, at place, want ...api.Packet) {
	t.Helper()
	for _, x := range want {
		was := r.All(at.in, at.out, at.lane)
		if got, ok := r.Pop(at.in, at.out, at.lane); !ok || got != x {
			t.Fatalf("%v: Pop = %v, %v, want %v, true", at, got, ok, x)
		}
		wantQueue(t, r, at, was[1:]...)
	}
}

func TestExample(t *testing.T) {
	r := begun(t, shape{2, 1, 2})
	at := place{0, 1, 0}
	wantPush(t, r, at, packet(1), packet(2))
	wantPop(t, r, at, packet(1))
	wantQueue(t, r, at, packet(2))
}

func TestRingsThatThereAre(t *testing.T) {
	for ports := 1; ports <= 16; ports++ {
		for lanes := 1; lanes <= 3; lanes++ {
			for _, slots := range []int{1, 2, 16, 100, 199, 200} {
				begun(t, shape{ports, lanes, slots})
			}
		}
	}
	for slots := 1; slots <= 200; slots++ {
		begun(t, shape{1, 1, slots})
	}
}

func TestRingsThatThereAreNot(t *testing.T) {
	wantNone := func(ports, lanes, slots int) {
		t.Helper()
		if r := New(ports, lanes, slots); r != nil {
			t.Errorf("New(%d, %d, %d) are rings", ports, lanes, slots)
		}
	}
	wide := []int{0, 201, 202, 456, 1<<16 + 2, 1<<32 + 2, 1<<32 + 200, math.MinInt + 2}
	for _, n := range append(wide, nowhere...) {
		if n != 16 {
			wantNone(n, 1, 1)
			wantNone(n, 3, 200)
		}
		wantNone(1, n, 1)
		wantNone(16, n, 200)
		if n < 1 || n > 200 {
			wantNone(1, 1, n)
			wantNone(16, 3, n)
		}
		wantNone(n, n, n)
	}
	wantNone(2, 4, 2)
	wantNone(2, 16, 2)
}

// TestInItsOrder fills one queue with as many as there are slots, and empties it, twice.
func TestInItsOrder(t *testing.T) {
	for slots := 1; slots <= 200; slots++ {
		r := begun(t, shape{2, 2, slots})
		at := place{1, 0, 1}
		for round := range 2 {
			all := packets(1000*round, 1000*round+slots)
			wantPush(t, r, at, all...)
			wantNoPush(t, r, at)
			wantPop(t, r, at, all...)
			wantEmpty(t, r, at)
		}
	}
}

// TestGoesRound keeps a queue as full as it is, pushed and popped by turns: slots are filled in another order than that of the queue.
func TestGoesRound(t *testing.T) {
	for _, s := range shapes {
		for _, there := range []int{1, s.slots/2 + 1, s.slots} {
			r := begun(t, s)
			at := place{s.ports - 1, 0, s.lanes - 1}
			wantPush(t, r, at, packets(0, there)...)
			for n := range 2*s.slots + 3 {
				wantPop(t, r, at, packet(n))
				wantPush(t, r, at, packet(n+there))
			}
		}
	}
}

// TestAllTogether: it is the packets of all queues that are counted, not those of one.
func TestAllTogether(t *testing.T) {
	for _, s := range shapes {
		r := begun(t, s)
		all := s.places()
		held := make(map[place][]api.Packet)
		for n := range s.slots {
			at := all[n*7%len(all)]
			wantPush(t, r, at, packet(n))
			held[at] = append(held[at], packet(n))
		}
		for _, at := range all {
			wantNoPush(t, r, at)
		}
		for _, at := range all {
			wantQueue(t, r, at, held[at]...)
		}
		one := all[0]
		other := all[len(all)-1]
		wantPop(t, r, one, packet(0))
		wantPush(t, r, other, packet(7777))
		for _, at := range all {
			wantNoPush(t, r, at)
		}
	}
}

// TestEachIsItsOwn lays one packet into each queue of its own number, and takes them out in another order.
func TestEachIsItsOwn(t *testing.T) {
	for _, s := range []shape{{1, 1, 200}, {2, 1, 200}, {1, 3, 200}, {3, 3, 200}, {8, 3, 200}, {16, 3, 200}} {
		r := begun(t, s)
		all := s.places()
		// Of more queues than there are slots, as many as can have one, spread over all of them.
		step := len(all)/s.slots + 1
		var some []place
		for i := 0; i < len(all); i += step {
			some = append(some, all[i])
		}
		for i, at := range some {
			wantPush(t, r, at, packet(i))
		}
		for _, at := range all {
			i := slices.Index(some, at)
			if i < 0 {
				wantEmpty(t, r, at)
			} else {
				wantQueue(t, r, at, packet(i))
			}
		}
		for i := len(some) - 1; i >= 0; i-- {
			wantPop(t, r, some[i], packet(i))
			wantEmpty(t, r, some[i])
			for j := range i {
				wantQueue(t, r, some[j], packet(j))
			}
		}
	}
}

// TestNotTheOtherWayRound: in and out are not the same thing.
func TestNotTheOtherWayRound(t *testing.T) {
	r := begun(t, shape{3, 3, 9})
	wantPush(t, r, place{0, 1, 2}, packet(1))
	for _, at := range (shape{3, 3, 9}).places() {
		if at != (place{0, 1, 2}) {
			wantEmpty(t, r, at)
		}
	}
	wantQueue(t, r, place{0, 1, 2}, packet(1))
}

// TestQueuesThatThereAreNot: what is asked of them tells nothing, and takes no slot.
func TestQueuesThatThereAreNot(t *testing.T) {
	for _, s := range shapes {
		r := begun(t, s)
		for _, at := range s.none() {
			wantNoPush(t, r, at)
			wantEmpty(t, r, at)
		}
		at := place{s.ports - 1, s.ports - 1, s.lanes - 1}
		wantPush(t, r, at, packets(0, s.slots)...)
		for _, at := range s.none() {
			wantNoPush(t, r, at)
			wantEmpty(t, r, at)
		}
		wantQueue(t, r, at, packets(0, s.slots)...)
		wantPop(t, r, at, packets(0, s.slots)...)
	}
}

// TestNoughtsAreAPacket: a packet all of whose fields are noughts is one like any other.
func TestNoughtsAreAPacket(t *testing.T) {
	r := begun(t, shape{2, 1, 3})
	at := place{1, 1, 0}
	wantPush(t, r, at, api.Packet{}, api.Packet{}, packet(1))
	wantNoPush(t, r, at)
	wantPop(t, r, at, api.Packet{}, api.Packet{}, packet(1))
	wantEmpty(t, r, at)
}

// TestAnyFields: queues do not look at what they have; a packet's Lane is not that of its queue.
func TestAnyFields(t *testing.T) {
	r := begun(t, shape{2, 2, 200})
	at := place{0, 1, 1}
	var all []api.Packet
	for _, n := range []int{0, 1, -1, 5, 6, 255, 256, 1 << 40, math.MaxInt, math.MinInt} {
		for _, body := range []uint32{0, 1, 1 << 31, math.MaxUint32} {
			all = append(all, api.Packet{Src: n, Body: body}, api.Packet{Dst: n, Body: body}, api.Packet{Lane: n, Body: body})
		}
	}
	wantPush(t, r, at, all...)
	wantPop(t, r, at, all...)
}

// TestWhatComesOutIsNew writes what All told, up to its capacity, and looks whether later steps write it.
func TestWhatComesOutIsNew(t *testing.T) {
	r := begun(t, shape{2, 1, 8})
	at := place{0, 0, 0}
	wantPush(t, r, at, packets(0, 5)...)
	got := r.All(0, 0, 0)
	other := r.All(0, 0, 0)
	for i := range got {
		got[i] = packet(500)
	}
	_ = append(got[:0], packets(600, 600+cap(got))...)
	wantQueue(t, r, at, packets(0, 5)...)
	wantPop(t, r, at, packets(0, 2)...)
	wantPush(t, r, at, packets(5, 10)...)
	if !slices.Equal(other, packets(0, 5)) {
		t.Errorf("what was told is %v now", other)
	}
	wantQueue(t, r, at, packets(2, 10)...)
}

func TestRingsKnowNothingOfEachOther(t *testing.T) {
	s := shape{2, 2, 4}
	at := place{1, 0, 1}
	one, two := begun(t, s), begun(t, s)
	wantPush(t, one, at, packets(0, 4)...)
	wantEmpty(t, two, at)
	wantPush(t, two, at, packets(10, 14)...)
	wantPop(t, one, at, packets(0, 4)...)
	wantNoPush(t, two, at)
	wantQueue(t, two, at, packets(10, 14)...)
	wantEmpty(t, begun(t, s), at)
}

// TestSlotsAreNotToBeReached: rings have no calls by which a slot could be filled or emptied beside the queues.
func TestSlotsAreNotToBeReached(t *testing.T) {
	var r any = begun(t, shape{1, 1, 1})
	if _, ok := r.(interface{ Drop(int) bool }); ok {
		t.Error("rings have the pool's Drop")
	}
	if _, ok := r.(interface {
		Put(api.Packet) (int, bool)
	}); ok {
		t.Error("rings have the pool's Put")
	}
}
