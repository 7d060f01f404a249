package pool

import (
	"math"
	"testing"

	"shunter/api"
)

// sizes are how many slots a pool may have: the least, the greatest, and some between.
var sizes = []int{1, 2, 3, 7, 16, 63, 64, 65, 127, 128, 129, 198, 199, 200}

// nowhere are numbers that are no slot's, whatever pool it is.
var nowhere = []int{-1, -2, -64, -199, -200, -201, -256, 200, 201, 255, 256, 257, 456, 65535, 65536, 65537, 1 << 31, 1<<31 - 1, 1 << 32, 1<<32 + 1, -1 << 31, -1 << 32, math.MaxInt, math.MaxInt - 1, math.MinInt, math.MinInt + 1}

// packet is one that is like no other one, in each of its fields.
func packet(n int) api.Packet {
	return api.Packet{Src: 3*n + 1, Dst: -n - 1, Lane: n<<32 + 1, Body: uint32(n)*2654435761 + 1}
}

// begun is a pool that there must be, all empty.
func begun(t *testing.T, slots int) *Pool {
	t.Helper()
	p := New(slots)
	if p == nil {
		t.Fatalf("New(%d) = nil", slots)
	}
	wantFree(t, p, slots)
	for slot := range slots {
		wantNone(t, p, slot)
	}
	return p
}

// filled is a pool all of whose slots have a packet, each that of its own number.
func filled(t *testing.T, slots int) *Pool {
	t.Helper()
	p := begun(t, slots)
	for slot := range slots {
		wantPut(t, p, packet(slot), slot)
	}
	return p
}

// wantFree asks more than once, for to ask is to change nothing.
func wantFree(t *testing.T, p *Pool, want int) {
	t.Helper()
	for range 2 {
		if got := p.Free(); got != want {
			t.Fatalf("Free = %d, want %d", got, want)
		}
	}
}

func wantGet(t *testing.T, p *Pool, slot int, want api.Packet) {
	t.Helper()
	for range 2 {
		if got, ok := p.Get(slot); !ok || got != want {
			t.Fatalf("Get(%d) = %v, %v, want %v, true", slot, got, ok, want)
		}
	}
}

// wantNone asks all that is asked of a slot, of one that is empty, or none.
func wantNone(t *testing.T, p *Pool, slot int) {
	t.Helper()
	free := p.Free()
	for range 2 {
		if got, ok := p.Get(slot); ok || got != (api.Packet{}) {
			t.Fatalf("Get(%d) = %v, %v, want nothing, false", slot, got, ok)
		}
		if p.Drop(slot) {
			t.Fatalf("Drop(%d) = true", slot)
		}
		wantFree(t, p, free)
	}
}

func wantPut(t *testing.T, p *Pool, x api.Packet, want int) {
	t.Helper()
	free := p.Free()
	if slot, ok := p.Put(x); !ok || slot != want {
		t.Fatalf("%d empty: Put = %d, %v, want %d, true", free, slot, ok, want)
	}
	wantFree(t, p, free-1)
	wantGet(t, p, want, x)
}

func wantNoPut(t *testing.T, p *Pool) {
	t.Helper()
	for range 3 {
		if slot, ok := p.Put(packet(9999)); ok || slot != 0 {
			t.Fatalf("none is empty: Put = %d, %v, want 0, false", slot, ok)
		}
		wantFree(t, p, 0)
	}
}

func wantDrop(t *testing.T, p *Pool, slot int) {
	t.Helper()
	free := p.Free()
	if !p.Drop(slot) {
		t.Fatalf("Drop(%d) = false", slot)
	}
	wantFree(t, p, free+1)
	wantNone(t, p, slot)
}

func TestExample(t *testing.T) {
	p := begun(t, 3)
	wantPut(t, p, packet(10), 0)
	wantPut(t, p, packet(11), 1)
	wantDrop(t, p, 0)
	wantPut(t, p, packet(12), 0)
	wantPut(t, p, packet(13), 2)
	wantNoPut(t, p)
	wantGet(t, p, 0, packet(12))
	wantGet(t, p, 1, packet(11))
	wantGet(t, p, 2, packet(13))
}

func TestPoolsThatThereAre(t *testing.T) {
	for slots := 1; slots <= 200; slots++ {
		begun(t, slots)
	}
}

func TestPoolsThatThereAreNot(t *testing.T) {
	for _, slots := range append([]int{0, 202, 300, 1<<16 + 200, 1<<32 + 200, math.MinInt + 200}, nowhere...) {
		if slots == 200 {
			continue
		}
		if p := New(slots); p != nil {
			t.Errorf("New(%d) is a pool", slots)
		}
	}
}

// TestNeverHadOneTheLeast fills each pool: its slots come in their order, and when none is empty no more can be put.
func TestNeverHadOneTheLeast(t *testing.T) {
	for slots := 1; slots <= 200; slots++ {
		p := filled(t, slots)
		wantNoPut(t, p)
		for slot := range slots {
			wantGet(t, p, slot, packet(slot))
		}
	}
}

func TestSlotsThatThereAreNot(t *testing.T) {
	for _, slots := range sizes {
		for _, p := range []*Pool{begun(t, slots), filled(t, slots)} {
			for _, slot := range append([]int{slots, slots + 1, slots + 256, -slots, slots - 1<<32, slots - 1 + 1<<32}, nowhere...) {
				wantNone(t, p, slot)
			}
		}
		p := filled(t, slots)
		for _, slot := range nowhere {
			p.Drop(slot)
		}
		wantNoPut(t, p)
		for slot := range slots {
			wantGet(t, p, slot, packet(slot))
		}
	}
}

// TestEmptiedLastComesFirst empties all slots of full pools in several orders: they are filled the other way round.
func TestEmptiedLastComesFirst(t *testing.T) {
	for _, slots := range sizes {
		for _, stride := range []int{1, 3, 7, 11} {
			if slots%stride == 0 && stride > 1 {
				continue
			}
			p := filled(t, slots)
			var order []int
			for i := range slots {
				order = append(order, (slots-1+i*stride)%slots)
			}
			for _, slot := range order {
				wantDrop(t, p, slot)
			}
			for i := slots - 1; i >= 0; i-- {
				wantPut(t, p, packet(1000+i), order[i])
			}
			wantNoPut(t, p)
			for i, slot := range order {
				wantGet(t, p, slot, packet(1000+i))
			}
		}
	}
}

// TestNeverHadOneComesBehind: all slots that had a packet, those that were emptied first among them, come ahead of any that never had one.
func TestNeverHadOneComesBehind(t *testing.T) {
	for _, slots := range sizes {
		for had := range slots + 1 {
			p := begun(t, slots)
			for slot := range had {
				wantPut(t, p, packet(slot), slot)
			}
			for slot := range had {
				wantDrop(t, p, slot)
			}
			for slot := had - 1; slot >= 0; slot-- {
				wantPut(t, p, packet(slot), slot)
			}
			for slot := had; slot < slots; slot++ {
				wantPut(t, p, packet(slot), slot)
			}
			wantNoPut(t, p)
		}
	}
}

func TestEmptiedTwiceIsOnce(t *testing.T) {
	p := filled(t, 3)
	wantDrop(t, p, 1)
	wantDrop(t, p, 2)
	for range 5 {
		if p.Drop(1) || p.Drop(2) {
			t.Fatal("an empty slot was emptied")
		}
	}
	wantPut(t, p, packet(20), 2)
	wantPut(t, p, packet(21), 1)
	wantNoPut(t, p)
}

// TestRefusedDropsDoNotCountAsLast: to empty a slot that is empty already does not put it ahead of those that were emptied since.
func TestRefusedDropsDoNotCountAsLast(t *testing.T) {
	p := filled(t, 4)
	for _, slot := range []int{3, 0, 2} {
		wantDrop(t, p, slot)
		wantNone(t, p, 3)
		wantNone(t, p, 4)
	}
	for i, slot := range []int{2, 0, 3} {
		wantPut(t, p, packet(30+i), slot)
	}
}

// TestNoughtsAreAPacket: a packet all of whose fields are noughts fills a slot like any other.
func TestNoughtsAreAPacket(t *testing.T) {
	for _, slots := range sizes {
		p := begun(t, slots)
		for slot := range slots {
			wantPut(t, p, api.Packet{}, slot)
		}
		wantNoPut(t, p)
		wantDrop(t, p, slots-1)
		wantPut(t, p, api.Packet{}, slots-1)
	}
}

// TestAnyFields: a pool does not look at what it has.
func TestAnyFields(t *testing.T) {
	p := begun(t, 200)
	slot := 0
	for _, n := range []int{0, 1, -1, 5, 6, 255, 256, -256, 1 << 40, math.MaxInt, math.MinInt} {
		for _, body := range []uint32{0, 1, 1 << 31, math.MaxUint32} {
			for _, x := range []api.Packet{{Src: n, Body: body}, {Dst: n, Body: body}, {Lane: n, Body: body}} {
				wantPut(t, p, x, slot)
				slot++
			}
		}
	}
}

// TestWhatIsHandedInAndOutIsNotKept writes what was put, and what was told.
func TestWhatIsHandedInAndOutIsNotKept(t *testing.T) {
	p := begun(t, 2)
	x := packet(1)
	p.Put(x)
	x.Body, x.Src = 77, 78
	p.Put(x)
	x = api.Packet{}
	wantGet(t, p, 0, packet(1))
	got, _ := p.Get(0)
	got.Body, got.Dst, got.Lane = 1, 2, 3
	wantGet(t, p, 0, packet(1))
	p.Drop(0)
	p.Put(packet(5))
	if got.Body != 1 || got.Src != packet(1).Src {
		t.Errorf("what was told is %v now", got)
	}
}

// TestPoolsKnowNothingOfEachOther goes on with one of two that were given the same.
func TestPoolsKnowNothingOfEachOther(t *testing.T) {
	one, two := filled(t, 5), filled(t, 5)
	for _, slot := range []int{4, 1, 2} {
		wantDrop(t, one, slot)
	}
	wantPut(t, one, packet(50), 2)
	wantNoPut(t, two)
	for slot := range 5 {
		wantGet(t, two, slot, packet(slot))
	}
	three := begun(t, 5)
	wantPut(t, three, packet(60), 0)
	wantPut(t, one, packet(51), 1)
}
