package credit

import (
	"math"
	"testing"
)

// beginnings are numbers from which short numbers, and longer ones, go over their ends, and the least and the greatest that may be.
var beginnings = []uint64{
	0, 1, 7, 8, 9, 32759, 32760, 32767, 32768, 32769, 65520, 65527, 65528, 65529, 65534, 65535, 65536, 65537, 98304, 131071,
	1<<31 - 1, 1 << 31, 1<<32 - 1, 1 << 32, 1<<48 - 3, 1<<62 - 65537, 1<<62 - 9, 1<<62 - 2, 1<<62 - 1,
}

// begun is a sender that there must be.
func begun(t *testing.T, sent uint64, room int) *Sender {
	t.Helper()
	s := New(sent, room)
	if s == nil {
		t.Fatalf("New(%d, %d) = nil", sent, room)
	}
	wantStands(t, "new", s, sent, sent+uint64(room))
	return s
}

// wantStands asks all that a sender tells of itself, twice, for to ask is to change nothing.
func wantStands(t *testing.T, why string, s *Sender, sent, limit uint64) {
	t.Helper()
	for range 2 {
		if s.Sent() != sent || s.Limit() != limit || s.Usable() != int(limit-sent) {
			t.Fatalf("%s: Sent %d, Limit %d, Usable %d, want %d, %d, %d", why, s.Sent(), s.Limit(), s.Usable(), sent, limit, limit-sent)
		}
	}
}

func wantNext(t *testing.T, s *Sender, want uint64) {
	t.Helper()
	limit := s.Limit()
	if n, ok := s.Next(); n != want || !ok {
		t.Fatalf("Next = %d, %v, want %d, true", n, ok, want)
	}
	wantStands(t, "behind Next", s, want+1, limit)
}

// wantNoNext asks more than once, for what was refused must change nothing.
func wantNoNext(t *testing.T, s *Sender) {
	t.Helper()
	sent := s.Sent()
	for range 3 {
		if n, ok := s.Next(); n != 0 || ok {
			t.Fatalf("Sent %d, Usable 0: Next = %d, %v, want 0, false", sent, n, ok)
		}
		wantStands(t, "behind a Next that may not be", s, sent, sent)
	}
}

// wantHeard tells a limit that is a higher one.
func wantHeard(t *testing.T, s *Sender, limit uint64) {
	t.Helper()
	sent, was := s.Sent(), s.Limit()
	if !s.Hear(uint16(limit)) {
		t.Fatalf("Sent %d, Limit %d: Hear(%d), of %d, = false", sent, was, uint16(limit), limit)
	}
	wantStands(t, "behind Hear", s, sent, limit)
}

func wantNotHeard(t *testing.T, why string, s *Sender, limit uint16) {
	t.Helper()
	sent, was := s.Sent(), s.Limit()
	if s.Hear(limit) {
		t.Fatalf("%s: Sent %d, Limit %d: Hear(%d) = true, Limit %d", why, sent, was, limit, s.Limit())
	}
	wantStands(t, why, s, sent, was)
}

// standing is a sender that has sent and may send so much, by its calls alone.
func standing(t *testing.T, sent uint64, usable int) *Sender {
	t.Helper()
	if usable > 0 {
		return begun(t, sent, usable)
	}
	s := begun(t, sent-1, 1)
	wantNext(t, s, sent-1)
	return s
}

func TestExample(t *testing.T) {
	s := begun(t, 65534, 2)
	wantNext(t, s, 65534)
	wantNext(t, s, 65535)
	wantNoNext(t, s)
	wantHeard(t, s, 65537)
	if s.Usable() != 1 {
		t.Errorf("Usable = %d, want 1", s.Usable())
	}
	wantNotHeard(t, "the chapter's example", s, 65535)
}

func TestSendersThatThereAre(t *testing.T) {
	for _, sent := range beginnings {
		for room := 1; room <= 8; room++ {
			begun(t, sent, room)
		}
	}
}

func TestRoomsThatThereAreNot(t *testing.T) {
	for _, sent := range beginnings {
		for _, room := range []int{0, -1, -2, -7, -8, -9, 9, 10, 16, 64, 255, 256, 257, 264, 65535, 65536, 65537, 1 << 31, 1<<32 + 1, 1<<62 + 1, math.MaxInt, math.MinInt, math.MinInt + 1} {
			if s := New(sent, room); s != nil {
				t.Errorf("New(%d, %d) is a sender", sent, room)
			}
		}
	}
}

func TestBeginningsThatThereAreNot(t *testing.T) {
	for _, sent := range []uint64{1 << 62, 1<<62 + 1, 1<<62 + 65536, 1<<63 - 1, 1 << 63, 1<<63 + 1, 3 << 62, math.MaxUint64 - 65536, math.MaxUint64 - 8, math.MaxUint64 - 7, math.MaxUint64 - 1, math.MaxUint64} {
		for room := -1; room <= 10; room++ {
			if s := New(sent, room); s != nil {
				t.Errorf("New(%d, %d) is a sender", sent, room)
			}
		}
	}
}

func TestAsManyAsTheRoomAndNoMore(t *testing.T) {
	for _, sent := range beginnings {
		for room := 1; room <= 8; room++ {
			s := begun(t, sent, room)
			for n := range uint64(room) {
				wantNext(t, s, sent+n)
			}
			wantNoNext(t, s)
		}
	}
}

// TestNextBehindAHigherLimit: what was refused is sent once a limit is heard, and not one more.
func TestNextBehindAHigherLimit(t *testing.T) {
	for _, sent := range beginnings {
		for more := uint64(1); more <= 8; more++ {
			s := standing(t, sent+1, 0)
			wantNoNext(t, s)
			wantHeard(t, s, sent+1+more)
			for n := range more {
				wantNext(t, s, sent+1+n)
			}
			wantNoNext(t, s)
		}
	}
}

// TestEveryShortNumber tells each short number to senders of all beginnings and all usable credits: those of which a long one lies above LIMIT, and not above SENT and 8, are heard, no others.
func TestEveryShortNumber(t *testing.T) {
	for _, sent := range beginnings {
		for usable := range 9 {
			if sent == 0 && usable == 0 {
				continue // there is none: one that begins at 0 may send at least one
			}
			s := standing(t, sent, usable)
			for limit := range 65536 {
				if higher, ok := higherLimit(sent, sent+uint64(usable), uint16(limit)); ok {
					wantHeard(t, s, higher)
					s = standing(t, sent, usable)
				} else if s.Hear(uint16(limit)) {
					t.Fatalf("Sent %d, Usable %d: Hear(%d) = true, Limit %d", sent, usable, limit, s.Limit())
				}
			}
			wantStands(t, "all short numbers were told", s, sent, sent+uint64(usable))
		}
	}
}

// higherLimit looks for the limit among the few that may be one, without widening.
func higherLimit(sent, limit uint64, short uint16) (uint64, bool) {
	for n := limit + 1; n <= sent+8; n++ {
		if n%65536 == uint64(short) {
			return n, true
		}
	}
	return 0, false
}

func TestEdgesOfWhatIsHeard(t *testing.T) {
	for _, c := range []struct {
		name   string
		sent   uint64
		usable int
		limit  uint16
		heard  bool
		want   uint64
	}{
		{"the limit that it has", 100, 4, 104, false, 104},
		{"one above", 100, 4, 105, true, 105},
		{"one below", 100, 4, 103, false, 104},
		{"what was sent", 100, 4, 100, false, 104},
		{"below what was sent", 100, 4, 99, false, 104},
		{"8 above what was sent", 100, 4, 108, true, 108},
		{"9 above what was sent", 100, 4, 109, false, 104},
		{"8 above the limit", 100, 4, 112, false, 104},
		{"8 above what was sent, all of it usable", 100, 8, 108, false, 108},
		{"9 above what was sent, 8 usable", 100, 8, 109, false, 108},
		{"none usable, 8 above", 100, 0, 108, true, 108},
		{"none usable, 9 above", 100, 0, 109, false, 100},
		{"none usable, 1 above", 100, 0, 101, true, 101},
		{"the limit that it has, short it is 0", 65530, 6, 0, false, 65536},
		{"one above, behind the end", 65530, 6, 1, true, 65537},
		{"8 above what was sent, behind the end", 65530, 6, 2, true, 65538},
		{"9 above what was sent, behind the end", 65530, 6, 3, false, 65536},
		{"up to the end itself", 65530, 5, 0, true, 65536},
		{"one below, ahead of the end", 65535, 2, 0, false, 65537},
		{"32767 ahead", 100, 4, 32871, false, 104},
		{"32768 apart", 100, 4, 32872, false, 104},
		{"32767 behind", 100, 4, 32873, false, 104},
		{"below 0: one less than 0", 0, 1, 65535, false, 1},
		{"below 0: nearly half of all", 0, 1, 32770, false, 1},
		{"below 0: equally near", 0, 1, 32769, false, 1},
		{"nought at the beginning", 0, 1, 0, false, 1},
		{"the greatest beginning, one above", 1<<62 - 1, 1, 1, true, 1<<62 + 1},
		{"the greatest beginning, 8 above what was sent", 1<<62 - 1, 1, 7, true, 1<<62 + 7},
		{"the greatest beginning, 9 above what was sent", 1<<62 - 1, 1, 8, false, 1 << 62},
	} {
		s := standing(t, c.sent, c.usable)
		if got := s.Hear(c.limit); got != c.heard {
			t.Errorf("%s: Hear(%d) = %v, want %v", c.name, c.limit, got, c.heard)
		}
		wantStands(t, c.name, s, c.sent, c.want)
	}
}

// TestTheRoomOfNewBindsNoLimit: how far a limit may lie ahead is MaxRoom, whatever room the sender began with.
func TestTheRoomOfNewBindsNoLimit(t *testing.T) {
	for room := 1; room <= 8; room++ {
		s := begun(t, 500, room)
		if room < 8 {
			wantHeard(t, s, 508)
		}
		wantNotHeard(t, "9 ahead", s, 509)
		wantNext(t, s, 500)
		wantHeard(t, s, 509)
	}
}

func TestTwiceIsNothing(t *testing.T) {
	for _, sent := range beginnings {
		for n := uint64(2); n <= 8; n++ {
			s := begun(t, sent, 1)
			wantHeard(t, s, sent+n)
			for range 3 {
				wantNotHeard(t, "heard twice", s, uint16(sent+n))
			}
			wantNext(t, s, sent)
			wantNotHeard(t, "heard twice, one sent between", s, uint16(sent+n))
		}
	}
}

// TestLateIsNothing tells a higher limit first, then all those that were told ahead of it.
func TestLateIsNothing(t *testing.T) {
	for _, sent := range beginnings {
		s := begun(t, sent, 1)
		top := sent + 1
		for range 40 {
			wantNext(t, s, s.Sent())
			top = s.Sent() + 8
			wantHeard(t, s, top)
			for late := top; late+40 > top && late > sent; late-- {
				wantNotHeard(t, "late", s, uint16(late))
			}
		}
		wantStands(t, "at the end", s, sent+40, top)
	}
}

// TestAllShortNumbersAreGoneThrough counts further than short numbers go, one limit a block, so that each short number is a limit and comes late more than once.
func TestAllShortNumbersAreGoneThrough(t *testing.T) {
	for _, sent := range []uint64{0, 65534, 1<<62 - 1} {
		for _, room := range []uint64{1, 2, 8} {
			s := begun(t, sent, int(room))
			for n := sent; n < sent+2*65536+10; n++ {
				if got, ok := s.Next(); got != n || !ok {
					t.Fatalf("Next = %d, %v, want %d, true", got, ok, n)
				}
				if late := uint16(n + room); s.Hear(late) {
					t.Fatalf("Sent %d: Hear(%d), late, = true", s.Sent(), late)
				}
				if !s.Hear(uint16(n + 1 + room)) {
					t.Fatalf("Sent %d: Hear(%d) = false", s.Sent(), uint16(n+1+room))
				}
			}
			wantStands(t, "at the end", s, sent+2*65536+10, sent+2*65536+10+room)
		}
	}
}

// TestLostLimitsDoNoHarm: a limit stands for all that were told ahead of it, so that one that comes is enough.
func TestLostLimitsDoNoHarm(t *testing.T) {
	for _, sent := range beginnings {
		s := begun(t, sent, 8)
		for range 20 {
			for n := range uint64(8) {
				wantNext(t, s, sent+n)
			}
			wantNoNext(t, s)
			sent += 8
			wantHeard(t, s, sent+8)
		}
	}
}

// TestAgainstAModel does many steps in no simple order, with limits near and far, and holds each answer against higherLimit.
func TestAgainstAModel(t *testing.T) {
	for seed, sent := range beginnings {
		room := seed%8 + 1
		s := begun(t, sent, room)
		limit := sent + uint64(room)
		x := uint32(seed)
		for range 4000 {
			x = x*1664525 + 1013904223
			if x>>31 == 0 {
				modelNext(t, s, &sent, limit)
			} else {
				modelHear(t, s, sent, &limit, toldLimit(x, limit))
			}
			if sent > limit || limit > sent+8 {
				t.Fatalf("Sent %d, Limit %d: more than the greatest room, or below nothing", sent, limit)
			}
			wantStands(t, "behind a step", s, sent, limit)
		}
	}
}

// toldLimit is a limit near the one that there is, mostly.
func toldLimit(x uint32, limit uint64) uint16 {
	if x>>28&1 == 0 {
		return uint16(limit - 10 + uint64((x>>8)%20))
	}
	return uint16(x >> 4)
}

func modelNext(t *testing.T, s *Sender, sent *uint64, limit uint64) {
	t.Helper()
	n, ok := s.Next()
	if *sent == limit {
		if n != 0 || ok {
			t.Fatalf("Sent %d, Limit %d: Next = %d, %v, want 0, false", *sent, limit, n, ok)
		}
		return
	}
	if n != *sent || !ok {
		t.Fatalf("Sent %d, Limit %d: Next = %d, %v, want %d, true", *sent, limit, n, ok, *sent)
	}
	*sent++
}

func modelHear(t *testing.T, s *Sender, sent uint64, limit *uint64, told uint16) {
	t.Helper()
	higher, want := higherLimit(sent, *limit, told)
	if got := s.Hear(told); got != want {
		t.Fatalf("Sent %d, Limit %d: Hear(%d) = %v, want %v", sent, *limit, told, got, want)
	}
	if want {
		*limit = higher
	}
}

func TestSendersKnowNothingOfOneAnother(t *testing.T) {
	a, b := begun(t, 10, 2), begun(t, 10, 2)
	wantNext(t, a, 10)
	wantHeard(t, a, 15)
	wantStands(t, "the other one", b, 10, 12)
	wantNext(t, b, 10)
	wantNext(t, b, 11)
	wantNoNext(t, b)
	wantStands(t, "the first one", a, 11, 15)
	if New(10, 9) != nil {
		t.Error("New(10, 9) is a sender")
	}
	wantStands(t, "behind a New that is refused", a, 11, 15)
}

// FuzzSteps holds for any steps: no panic, LIMIT never falls, what may be sent is 0 to 8, and each step is as the model has it. A pair of bytes that are the same is a Next, each other one a limit.
func FuzzSteps(f *testing.F) {
	f.Add(uint64(65534), 2, []byte{0, 0, 0, 0, 0, 1, 255, 254})
	f.Add(uint64(0), 1, []byte{255, 254, 128, 1, 0, 0, 0, 9})
	f.Add(uint64(1<<62-1), 8, []byte{3, 3, 0, 8, 4, 4})
	f.Add(uint64(1<<62), 8, []byte{0, 1})
	f.Add(uint64(5), 9, []byte{0, 1})
	f.Fuzz(func(t *testing.T, sent uint64, room int, steps []byte) {
		s := New(sent, room)
		if may := sent < 1<<62 && room >= 1 && room <= 8; may != (s != nil) {
			t.Fatalf("New(%d, %d): there is one: %v, want %v", sent, room, s != nil, may)
		}
		if s == nil {
			return
		}
		limit := sent + uint64(room)
		for ; len(steps) >= 2; steps = steps[2:] {
			was := s.Limit()
			if steps[0] == steps[1] {
				modelNext(t, s, &sent, limit)
			} else {
				modelHear(t, s, sent, &limit, uint16(steps[0])<<8|uint16(steps[1]))
			}
			wantStands(t, "behind a step", s, sent, limit)
			if s.Limit() < was || s.Usable() < 0 || s.Usable() > 8 {
				t.Fatalf("Limit was %d, is %d, Usable %d", was, s.Limit(), s.Usable())
			}
		}
	})
}
