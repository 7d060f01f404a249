package buffer

import (
	"math"
	"testing"

	"shunter/api"
)

// beginnings are numbers from which short numbers, and longer ones, go over their ends, and the least and the greatest that may be.
var beginnings = []uint64{
	0, 1, 7, 8, 9, 32759, 32760, 32767, 32768, 32769, 65520, 65527, 65528, 65529, 65534, 65535, 65536, 65537, 98304, 131071,
	1<<31 - 1, 1 << 31, 1<<32 - 1, 1 << 32, 1<<48 - 3, 1<<62 - 65537, 1<<62 - 9, 1<<62 - 2, 1<<62 - 1,
}

// begun is a receiver that there must be.
func begun(t *testing.T, next uint64, room int) *Receiver {
	t.Helper()
	r := New(next, room)
	if r == nil {
		t.Fatalf("New(%d, %d) = nil", next, room)
	}
	wantStands(t, "new", r, next, 0, next+uint64(room))
	return r
}

// standing is a receiver that began at a number, took as many as it holds, and expects the one behind them.
func standing(t *testing.T, next uint64, room, held int) *Receiver {
	t.Helper()
	r := begun(t, next, room)
	for n := range uint64(held) {
		wantCome(t, r, next+n, next+uint64(room))
	}
	return r
}

// wantStands asks all that a receiver tells of itself, twice, for to ask is to change nothing.
func wantStands(t *testing.T, why string, r *Receiver, next uint64, held int, limit uint64) {
	t.Helper()
	for range 2 {
		if r.Expects() != next || r.Held() != held || r.Limit() != limit {
			t.Fatalf("%s: Expects %d, Held %d, Limit %d, want %d, %d, %d", why, r.Expects(), r.Held(), r.Limit(), next, held, limit)
		}
	}
}

// wantCome lets a block come that may, and says what the limit is behind it.
func wantCome(t *testing.T, r *Receiver, n, limit uint64) {
	t.Helper()
	next, held := r.Expects(), r.Held()
	if e := r.Come(uint16(n)); e != api.OK {
		t.Fatalf("Expects %d, Held %d: Come(%d), of %d, = %d, want 0", next, held, uint16(n), n, e)
	}
	wantStands(t, "behind Come", r, n+1, held+1, limit)
}

// wantRefused asks more than once, for what was refused must change nothing.
func wantRefused(t *testing.T, why string, r *Receiver, seq uint16, want api.Errno) {
	t.Helper()
	next, held, limit := r.Expects(), r.Held(), r.Limit()
	for range 2 {
		if e := r.Come(seq); e != want {
			t.Fatalf("%s: Expects %d, Limit %d: Come(%d) = %d, want %d", why, next, limit, seq, e, want)
		}
		wantStands(t, why, r, next, held, limit)
	}
}

func wantFree(t *testing.T, r *Receiver) {
	t.Helper()
	next, held, limit := r.Expects(), r.Held(), r.Limit()
	if !r.Free() {
		t.Fatalf("Held %d: Free = false", held)
	}
	wantStands(t, "behind Free", r, next, held-1, limit+1)
}

func wantNoFree(t *testing.T, r *Receiver) {
	t.Helper()
	next, limit := r.Expects(), r.Limit()
	for range 3 {
		if r.Free() {
			t.Fatalf("Held 0: Free = true, Held %d", r.Held())
		}
		wantStands(t, "behind a Free of nothing", r, next, 0, limit)
	}
}

// wantHeard tells up to which was sent, where some of them are lost.
func wantHeard(t *testing.T, r *Receiver, sent uint64) {
	t.Helper()
	next, held, limit := r.Expects(), r.Held(), r.Limit()
	if !r.Hear(uint16(sent)) {
		t.Fatalf("Expects %d, Limit %d: Hear(%d), of %d, = false", next, limit, uint16(sent), sent)
	}
	wantStands(t, "behind Hear", r, sent, held, limit+sent-next)
}

func wantNotHeard(t *testing.T, why string, r *Receiver, sent uint16) {
	t.Helper()
	next, held, limit := r.Expects(), r.Held(), r.Limit()
	for range 2 {
		if r.Hear(sent) {
			t.Fatalf("%s: Expects %d, Limit %d: Hear(%d) = true, Expects %d", why, next, limit, sent, r.Expects())
		}
		wantStands(t, why, r, next, held, limit)
	}
}

func TestExample(t *testing.T) {
	r := begun(t, 10, 2)
	wantCome(t, r, 11, 13)
	wantRefused(t, "the chapter's example", r, 10, 60)
	wantRefused(t, "the chapter's example", r, 13, 61)
	wantHeard(t, r, 13)
	wantStands(t, "the chapter's example", r, 13, 1, 14)
}

func TestReceiversThatThereAre(t *testing.T) {
	for _, next := range beginnings {
		for room := 1; room <= 8; room++ {
			begun(t, next, room)
		}
	}
}

func TestRoomsThatThereAreNot(t *testing.T) {
	for _, next := range beginnings {
		for _, room := range []int{0, -1, -2, -7, -8, -9, 9, 10, 16, 64, 255, 256, 257, 264, 65535, 65536, 65537, 1 << 31, 1<<32 + 1, 1<<62 + 1, math.MaxInt, math.MinInt, math.MinInt + 1} {
			if r := New(next, room); r != nil {
				t.Errorf("New(%d, %d) is a receiver", next, room)
			}
		}
	}
}

func TestBeginningsThatThereAreNot(t *testing.T) {
	for _, next := range []uint64{1 << 62, 1<<62 + 1, 1<<62 + 65536, 1<<63 - 1, 1 << 63, 1<<63 + 1, 3 << 62, math.MaxUint64 - 65536, math.MaxUint64 - 8, math.MaxUint64 - 7, math.MaxUint64 - 1, math.MaxUint64} {
		for room := -1; room <= 10; room++ {
			if r := New(next, room); r != nil {
				t.Errorf("New(%d, %d) is a receiver", next, room)
			}
		}
	}
}

// TestAsManyAsTheRoomAndNoMore fills a receiver, and empties it: the limit stands still while it fills, and goes up by one with each that is given up.
func TestAsManyAsTheRoomAndNoMore(t *testing.T) {
	for _, next := range beginnings {
		for room := 1; room <= 8; room++ {
			r := standing(t, next, room, room)
			limit := next + uint64(room)
			wantStands(t, "full", r, limit, room, limit)
			wantRefused(t, "full", r, uint16(limit), api.ErrOver)
			for range room {
				wantFree(t, r)
			}
			wantNoFree(t, r)
			wantStands(t, "empty again", r, limit, 0, limit+uint64(room))
		}
	}
}

// TestOneFreedOneComes: with all of the room taken, each that is given up lets one more come, and only one.
func TestOneFreedOneComes(t *testing.T) {
	for _, next := range beginnings {
		for room := 1; room <= 8; room++ {
			r := standing(t, next, room, room)
			for n := next + uint64(room); n < next+uint64(room)+20; n++ {
				wantRefused(t, "full", r, uint16(n), api.ErrOver)
				wantFree(t, r)
				wantRefused(t, "one freed, two ahead", r, uint16(n+1), api.ErrOver)
				wantCome(t, r, n, n+1)
			}
		}
	}
}

// TestWhatLiesBetweenIsLost lets blocks be left out: they never come later, and their room is there for those behind.
func TestWhatLiesBetweenIsLost(t *testing.T) {
	for _, next := range beginnings {
		for room := uint64(2); room <= 8; room++ {
			for left := uint64(1); left < room; left++ {
				r := begun(t, next, int(room))
				wantCome(t, r, next+left, next+left+room)
				for n := range left + 1 {
					wantRefused(t, "left out, or come", r, uint16(next+n), api.ErrStale)
				}
				for n := next + left + 1; n < next+left+room; n++ {
					wantCome(t, r, n, next+left+room)
				}
				wantRefused(t, "full", r, uint16(next+left+room), api.ErrOver)
			}
		}
	}
}

// TestWhatIsHeardIsLost: what was sent, and is not there when that is heard, never comes later; what is held stays.
func TestWhatIsHeardIsLost(t *testing.T) {
	for _, begin := range beginnings {
		for room := 1; room <= 8; room++ {
			for held := range room {
				for lost := range uint64(room - held) {
					r := standing(t, begin, room, held)
					next := r.Expects()
					wantHeard(t, r, next+lost+1)
					wantNotHeard(t, "heard twice", r, uint16(next+lost+1))
					wantNotHeard(t, "heard late", r, uint16(next+lost))
					for n := next; n <= next+lost; n++ {
						wantRefused(t, "heard as lost", r, uint16(n), api.ErrStale)
					}
					wantCome(t, r, next+lost+1, begin+uint64(room)+lost+1)
				}
			}
		}
	}
}

// TestFullHearsNothing: where nothing more could be sent, nothing can be lost.
func TestFullHearsNothing(t *testing.T) {
	for _, next := range beginnings {
		for room := 1; room <= 8; room++ {
			r := standing(t, next, room, room)
			for sent := range 65536 {
				if r.Hear(uint16(sent)) {
					t.Fatalf("full, Expects %d: Hear(%d) = true", next+uint64(room), sent)
				}
			}
			wantStands(t, "all short numbers were told", r, next+uint64(room), room, next+uint64(room))
		}
	}
}

// comes is what the words ask of Come, by counting steps from NEXT on and back from it, without widening: so many steps ahead, or back; of two the lesser one is taken, and below 0 there is nothing that could be below NEXT.
func comes(next, limit uint64, seq uint16) (uint64, api.Errno) {
	for n := next; n < limit; n++ {
		if n%65536 == uint64(seq) {
			return n, api.OK
		}
	}
	back := (next%65536 + 65536 - uint64(seq)) % 65536
	if 1 <= back && back <= 32768 && back <= next {
		return 0, api.ErrStale
	}
	return 0, api.ErrOver
}

// hears likewise is what the words ask of Hear.
func hears(next, limit uint64, sent uint16) (uint64, bool) {
	for n := next + 1; n <= limit; n++ {
		if n%65536 == uint64(sent) {
			return n, true
		}
	}
	return 0, false
}

// TestEveryShortNumberComes sends each short number to receivers of all beginnings, of several rooms, all of which hold.
func TestEveryShortNumberComes(t *testing.T) {
	for _, begin := range beginnings {
		for _, room := range []int{1, 2, 5, 8} {
			for held := range room + 1 {
				r := standing(t, begin, room, held)
				next, limit := r.Expects(), r.Limit()
				for seq := range 65536 {
					_, want := comes(next, limit, uint16(seq))
					if got := r.Come(uint16(seq)); got != want {
						t.Fatalf("Expects %d, Limit %d: Come(%d) = %d, want %d", next, limit, seq, got, want)
					}
					if want == api.OK {
						r = standing(t, begin, room, held)
					}
				}
				wantStands(t, "all short numbers came", r, next, held, limit)
			}
		}
	}
}

func TestEveryShortNumberIsHeard(t *testing.T) {
	for _, begin := range beginnings {
		for _, room := range []int{1, 2, 5, 8} {
			for held := range room + 1 {
				r := standing(t, begin, room, held)
				next, limit := r.Expects(), r.Limit()
				for sent := range 65536 {
					n, want := hears(next, limit, uint16(sent))
					if got := r.Hear(uint16(sent)); got != want {
						t.Fatalf("Expects %d, Limit %d: Hear(%d) = %v, want %v", next, limit, sent, got, want)
					}
					if want {
						wantStands(t, "behind Hear", r, n, held, limit+n-next)
						r = standing(t, begin, room, held)
					}
				}
				wantStands(t, "all short numbers were told", r, next, held, limit)
			}
		}
	}
}

func TestEdgesOfWhatComes(t *testing.T) {
	for _, c := range []struct {
		name string
		next uint64
		room int
		seq  uint16
		want api.Errno
	}{
		{"the one that it expects", 100, 4, 100, api.OK},
		{"one below", 100, 4, 99, api.ErrStale},
		{"the last one below the limit", 100, 4, 103, api.OK},
		{"the limit", 100, 4, 104, api.ErrOver},
		{"one above the limit", 100, 4, 105, api.ErrOver},
		{"the greatest room, the last one", 100, 8, 107, api.OK},
		{"the greatest room, the limit", 100, 8, 108, api.ErrOver},
		{"room for one, the next one", 100, 1, 101, api.ErrOver},
		{"over the end", 65535, 2, 0, api.OK},
		{"over the end, the limit", 65535, 2, 1, api.ErrOver},
		{"back over the end", 65536, 2, 65535, api.ErrStale},
		{"32767 ahead", 70000, 8, uint16(102767 % 65536), api.ErrOver},
		{"32768 apart, the lesser one", 70000, 8, uint16(102768 % 65536), api.ErrStale},
		{"32767 behind", 70000, 8, uint16(102769 % 65536), api.ErrStale},
		{"back to 0", 100, 4, 0, api.ErrStale},
		{"32768 back to 0", 32768, 4, 0, api.ErrStale},
		{"below 0: there it is far ahead", 100, 4, 65535, api.ErrOver},
		{"below 0: from 0", 0, 4, 65535, api.ErrOver},
		{"below 0: equally near", 0, 4, 32768, api.ErrOver},
		{"0 itself", 0, 1, 0, api.OK},
		{"the greatest beginning", 1<<62 - 1, 8, 65535, api.OK},
		{"the greatest beginning, the last one", 1<<62 - 1, 8, 6, api.OK},
		{"the greatest beginning, the limit", 1<<62 - 1, 8, 7, api.ErrOver},
		{"the greatest beginning, one below", 1<<62 - 1, 8, 65534, api.ErrStale},
	} {
		r := begun(t, c.next, c.room)
		if got := r.Come(c.seq); got != c.want {
			t.Errorf("%s: Come(%d) = %d, want %d", c.name, c.seq, got, c.want)
		}
		if c.want != api.OK {
			wantStands(t, c.name, r, c.next, 0, c.next+uint64(c.room))
		}
	}
}

func TestEdgesOfWhatIsHeard(t *testing.T) {
	for _, c := range []struct {
		name string
		next uint64
		room int
		held int
		sent uint16
		want uint64
	}{
		{"the one that it expects", 100, 4, 0, 100, 100},
		{"one above", 100, 4, 0, 101, 101},
		{"one below", 100, 4, 0, 99, 100},
		{"the limit", 100, 4, 0, 104, 104},
		{"one above the limit", 100, 4, 0, 105, 100},
		{"the limit, some held", 100, 4, 3, 104, 104},
		{"one above the limit, some held", 100, 4, 3, 105, 103},
		{"the limit, all held", 100, 4, 4, 104, 104},
		{"the limit over the end", 65530, 8, 0, 2, 65538},
		{"one above the limit over the end", 65530, 8, 0, 3, 65530},
		{"the end itself", 65530, 8, 0, 0, 65536},
		{"below 0", 0, 8, 0, 65535, 0},
		{"below 0: equally near", 0, 8, 0, 32768, 0},
		{"32767 ahead", 70000, 8, 0, uint16(102767 % 65536), 70000},
		{"32768 apart", 70000, 8, 0, uint16(102768 % 65536), 70000},
		{"the greatest beginning, the limit", 1<<62 - 1, 8, 0, 7, 1<<62 + 7},
		{"the greatest beginning, one above the limit", 1<<62 - 1, 8, 0, 8, 1<<62 - 1},
	} {
		r := standing(t, c.next, c.room, c.held)
		next, limit := r.Expects(), r.Limit()
		if got := r.Hear(c.sent); got != (c.want != next) {
			t.Errorf("%s: Hear(%d) = %v, want %v", c.name, c.sent, got, c.want != next)
		}
		wantStands(t, c.name, r, c.want, c.held, limit+c.want-next)
	}
}

// TestMayCome: the number is told whether or not it may come, for by it Come tells late blocks from those that find no room.
func TestMayCome(t *testing.T) {
	r := standing(t, 65530, 4, 2)
	for _, c := range []struct {
		seq  uint16
		want uint64
		may  bool
	}{
		{65531, 65531, false}, {65532, 65532, true}, {65533, 65533, true}, {65534, 65534, false}, {3, 65539, false},
	} {
		if n, may := r.mayCome(c.seq); n != c.want || may != c.may {
			t.Errorf("mayCome(%d) = %d, %v, want %d, %v", c.seq, n, may, c.want, c.may)
		}
	}
	wantStands(t, "to ask is to change nothing", r, 65532, 2, 65534)
}

// TestAllShortNumbersAreGoneThrough counts further than short numbers go, so that each short number comes more than once, as another number.
func TestAllShortNumbersAreGoneThrough(t *testing.T) {
	for _, next := range []uint64{0, 65534, 1<<62 - 1} {
		for _, room := range []int{1, 2, 8} {
			r := begun(t, next, room)
			for n := next; n < next+2*65536+10; n++ {
				if e := r.Come(uint16(n)); e != api.OK {
					t.Fatalf("Expects %d: Come(%d) = %d", r.Expects(), uint16(n), e)
				}
				if e := r.Come(uint16(n)); e != api.ErrStale {
					t.Fatalf("Expects %d: Come(%d), twice, = %d", r.Expects(), uint16(n), e)
				}
				if !r.Free() {
					t.Fatalf("Expects %d: Free = false", r.Expects())
				}
			}
			wantStands(t, "at the end", r, next+2*65536+10, 0, next+2*65536+10+uint64(room))
		}
	}
}

func TestReceiversKnowNothingOfOneAnother(t *testing.T) {
	a, b := begun(t, 10, 2), begun(t, 10, 2)
	wantCome(t, a, 11, 13)
	wantStands(t, "the other one", b, 10, 0, 12)
	wantNoFree(t, b)
	wantHeard(t, b, 12)
	wantStands(t, "the first one", a, 12, 1, 13)
	if New(10, 9) != nil {
		t.Error("New(10, 9) is a receiver")
	}
	wantStands(t, "behind a New that is refused", a, 12, 1, 13)
}
