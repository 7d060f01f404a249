package link

import (
	"bytes"
	"math"
	"slices"
	"testing"
)

// holding is a link on which these were sent.
func holding(t *testing.T, room int, sent ...string) *Link {
	t.Helper()
	l := New(room)
	if l == nil {
		t.Fatalf("New(%d) = nil", room)
	}
	for i, s := range sent {
		if !l.Send([]byte(s)) {
			t.Fatalf("room %d: Send of the %d-th = false", room, i)
		}
	}
	return l
}

// texts is what All tells, as texts, which share no memory with it.
func texts(l *Link) []string {
	var all []string
	for _, b := range l.All() {
		all = append(all, string(b))
	}
	return all
}

func wantRow(t *testing.T, why string, l *Link, want ...string) {
	t.Helper()
	if got := texts(l); !slices.Equal(got, want) {
		t.Fatalf("%s: the row is %q, want %q", why, got, want)
	}
}

func wantTaken(t *testing.T, why string, l *Link, i int, want string) {
	t.Helper()
	if b, ok := l.Take(i); !ok || string(b) != want {
		t.Fatalf("%s: Take(%d) = %q, %v, want %q, true", why, i, b, ok, want)
	}
}

// wantNoPlace asks all that is asked of a place, of one that there is not.
func wantNoPlace(t *testing.T, l *Link, i int) {
	t.Helper()
	was := texts(l)
	if b, ok := l.Take(i); ok || len(b) != 0 {
		t.Fatalf("%q: Take(%d) = %q, %v, want nothing, false", was, i, b, ok)
	}
	if l.Twice(i) {
		t.Fatalf("%q: Twice(%d) = true", was, i)
	}
	if l.Bend(i, 0, 1) {
		t.Fatalf("%q: Bend(%d, 0, 1) = true", was, i)
	}
	wantRow(t, "a place that there is not", l, was...)
}

func TestExample(t *testing.T) {
	l := holding(t, 3, "\x01", "\x02")
	if !l.Bend(0, 0, 4) {
		t.Fatal("Bend(0, 0, 4) = false")
	}
	wantRow(t, "bent", l, "\x05", "\x02")
	wantTaken(t, "the chapter's example", l, 1, "\x02")
	wantRow(t, "taken", l, "\x05")
}

func TestRoomsThatThereAreNot(t *testing.T) {
	for _, room := range []int{0, -1, -2, -63, -64, -65, 65, 66, 127, 128, 192, 255, 256, 257, 300, 65536, 65537, 1 << 31, 1<<32 + 1, math.MaxInt, math.MinInt, math.MinInt + 1} {
		if l := New(room); l != nil {
			t.Errorf("New(%d) is a link", room)
		}
	}
}

func TestEveryRoomHoldsAsMany(t *testing.T) {
	for room := 1; room <= 64; room++ {
		l := holding(t, room)
		wantRow(t, "new", l)
		var want []string
		for n := range room {
			s := string([]byte{byte(n), byte(room)})
			if !l.Send([]byte(s)) {
				t.Fatalf("room %d: Send with %d there = false", room, n)
			}
			want = append(want, s)
			wantRow(t, "sent", l, want...)
		}
		for range 3 {
			if l.Send([]byte("more")) {
				t.Fatalf("room %d: one more was sent", room)
			}
			if l.Send(nil) {
				t.Fatalf("room %d: one more without bytes was sent", room)
			}
			wantRow(t, "full", l, want...)
		}
	}
}

func TestFullAndThenNot(t *testing.T) {
	for _, room := range []int{1, 2, 3, 63, 64} {
		for _, i := range []int{0, room / 2, room - 1} {
			var want []string
			for n := range room {
				want = append(want, string(rune('0'+n)))
			}
			l := holding(t, room, want...)
			wantTaken(t, "full", l, i, want[i])
			want = append(slices.Delete(want, i, i+1), "new")
			if !l.Send([]byte("new")) {
				t.Fatalf("room %d: one was taken, and none could be sent", room)
			}
			wantRow(t, "full again", l, want...)
			if l.Send([]byte("newer")) {
				t.Fatalf("room %d: one was taken, and two could be sent", room)
			}
			wantRow(t, "still full", l, want...)
		}
	}
}

func TestNoSuchPlace(t *testing.T) {
	for _, room := range []int{1, 2, 5, 64} {
		l := holding(t, room)
		for n := range room + 1 {
			for _, i := range []int{-1, -2, -n - 1, -64, math.MinInt, n, n + 1, n + 64, 65536, math.MaxInt} {
				if i < 0 || i >= n {
					wantNoPlace(t, l, i)
				}
			}
			l.Send([]byte{byte(n)})
		}
	}
}

// TestNoPlaceBehindWhatWasTaken looks at places that there were.
func TestNoPlaceBehindWhatWasTaken(t *testing.T) {
	l := holding(t, 4, "a", "b", "c", "d")
	for n := 3; n >= 0; n-- {
		if _, ok := l.Take(0); !ok {
			t.Fatal("Take(0) = false")
		}
		for i := n; i < 6; i++ {
			wantNoPlace(t, l, i)
		}
	}
	wantRow(t, "all taken", l)
}

func TestTakeFromEveryPlace(t *testing.T) {
	for n := 1; n <= 6; n++ {
		for i := range n {
			want := []string{"zero", "one", "two", "three", "four", "five"}[:n]
			l := holding(t, 6, want...)
			wantTaken(t, "one of some", l, i, want[i])
			wantRow(t, "what is left", l, slices.Delete(slices.Clone(want), i, i+1)...)
		}
	}
}

func TestTakeFrontMiddleEnd(t *testing.T) {
	l := holding(t, 5, "a", "b", "c", "d", "e")
	wantTaken(t, "the front", l, 0, "a")
	wantRow(t, "without the front", l, "b", "c", "d", "e")
	wantTaken(t, "the end", l, 3, "e")
	wantRow(t, "without the end", l, "b", "c", "d")
	wantTaken(t, "the middle", l, 1, "c")
	wantRow(t, "without the middle", l, "b", "d")
	l.Send([]byte("f"))
	wantRow(t, "one more", l, "b", "d", "f")
	wantTaken(t, "the front", l, 0, "b")
	wantTaken(t, "the front", l, 0, "d")
	wantTaken(t, "the front", l, 0, "f")
	wantRow(t, "nothing left", l)
}

func TestTwice(t *testing.T) {
	for i, want := range []string{"a", "bb", "", "c"} {
		l := holding(t, 5, "a", "bb", "", "c")
		if !l.Twice(i) {
			t.Fatalf("Twice(%d) = false", i)
		}
		wantRow(t, "doubled", l, "a", "bb", "", "c", want)
	}
}

func TestTwiceWithoutRoom(t *testing.T) {
	for room := 1; room <= 64; room++ {
		l := holding(t, room, "x")
		for n := 1; n < room; n++ {
			if !l.Twice(n - 1) {
				t.Fatalf("room %d: Twice with %d there = false", room, n)
			}
		}
		want := slices.Repeat([]string{"x"}, room)
		wantRow(t, "doubled until it is full", l, want...)
		for i := range room {
			if l.Twice(i) {
				t.Fatalf("room %d, full: Twice(%d) = true", room, i)
			}
		}
		wantRow(t, "full", l, want...)
		wantTaken(t, "full", l, 0, "x")
		if room > 1 && !l.Twice(0) {
			t.Fatalf("room %d: one was taken, and none could be doubled", room)
		}
	}
}

// TestBothOfTwoAreTheirOwn bends each of two that were one.
func TestBothOfTwoAreTheirOwn(t *testing.T) {
	l := holding(t, 3, "ab", "c")
	l.Twice(0)
	l.Bend(0, 0, 1)
	wantRow(t, "the first is bent", l, "\x60b", "c", "ab")
	l.Bend(2, 1, 1)
	wantRow(t, "the other one is bent", l, "\x60b", "c", "ac")
	wantTaken(t, "the first", l, 0, "\x60b")
	wantRow(t, "the other one is left", l, "c", "ac")
}

// TestTwiceOfABentOne: the same is what it is now, not what was sent.
func TestTwiceOfABentOne(t *testing.T) {
	l := holding(t, 3, "abc")
	l.Bend(0, 2, 2)
	l.Twice(0)
	wantRow(t, "bent, then doubled", l, "aba", "aba")
}

func TestBendEveryByteByEveryValue(t *testing.T) {
	const sent = "\x00\x01\x7f\x80\xff"
	for at := range 3 * len(sent) {
		for x := 1; x < 256; x++ {
			l := holding(t, 3, "before", sent, "behind")
			if !l.Bend(1, at, byte(x)) {
				t.Fatalf("Bend(1, %d, %d) = false", at, x)
			}
			want := []byte(sent)
			want[at%len(sent)] ^= byte(x)
			wantRow(t, "bent", l, "before", string(want), "behind")
			l.Bend(1, at, byte(x))
			wantRow(t, "bent back", l, "before", sent, "behind")
		}
	}
}

func TestBendFarBehindTheLastByte(t *testing.T) {
	for _, c := range []struct {
		sent string
		at   int
		want string
	}{
		{"a", 1, "A"},
		{"a", math.MaxInt, "A"},
		{"ab", 2, "Ab"},
		{"ab", 3, "aB"},
		{"ab", math.MaxInt, "aB"},
		{"ab", math.MaxInt - 1, "Ab"},
		{"abc", 1 << 32, "aBc"},
		{"abcdef", 7, "aBcdef"},
		{"abcdef", 12, "Abcdef"},
		{"abcdefghijkl", 65536 + 256, "abcdefghIjkl"},
	} {
		l := holding(t, 1, c.sent)
		if !l.Bend(0, c.at, 32) {
			t.Errorf("%q: Bend(0, %d, 32) = false", c.sent, c.at)
		}
		if got := string(l.All()[0]); got != c.want {
			t.Errorf("%q: behind Bend(0, %d, 32) %q, want %q", c.sent, c.at, got, c.want)
		}
	}
}

func TestWhatIsNotBent(t *testing.T) {
	l := holding(t, 4, "abc", "", "d")
	for _, c := range []struct {
		name  string
		i, at int
		x     byte
	}{
		{"at is -1", 0, -1, 1},
		{"at is below 0 by as many as there are", 0, -3, 1},
		{"at is below 0 by a multiple of as many", 2, -8, 255},
		{"at is the least", 0, math.MinInt, 1},
		{"at and i are below 0", -1, -1, 1},
		{"x is 0", 0, 0, 0},
		{"x is 0, at behind the last", 0, 7, 0},
		{"x is 0, at below 0", 0, -7, 0},
		{"no bytes", 1, 0, 1},
		{"no bytes, at 5", 1, 5, 255},
		{"no bytes, at below 0", 1, -5, 255},
		{"no bytes, x is 0", 1, 0, 0},
		{"no place", 3, 0, 1},
		{"no place, at below 0, x 0", 3, -1, 0},
	} {
		if l.Bend(c.i, c.at, c.x) {
			t.Errorf("%s: Bend(%d, %d, %d) = true", c.name, c.i, c.at, c.x)
		}
		wantRow(t, c.name, l, "abc", "", "d")
	}
}

// TestNoBytesAreSomethingToo: nil and an empty list take room, and are told with true.
func TestNoBytesAreSomethingToo(t *testing.T) {
	for _, none := range [][]byte{nil, {}, make([]byte, 0, 8), []byte("abc")[:0]} {
		l := holding(t, 2)
		if !l.Send(none) || !l.Twice(0) {
			t.Fatal("no bytes could not be sent and doubled")
		}
		if l.Send(none) || l.Twice(1) {
			t.Fatal("no bytes were sent or doubled without room")
		}
		wantRow(t, "no bytes", l, "", "")
		wantTaken(t, "no bytes", l, 1, "")
		wantTaken(t, "no bytes", l, 0, "")
		wantNoPlace(t, l, 0)
	}
}

func TestManyBytes(t *testing.T) {
	b := bytes.Repeat([]byte("0123456789abcdef"), 1<<16)
	l := holding(t, 2, string(b))
	l.Twice(0)
	l.Bend(1, 1<<20-1, 1)
	b[1<<20-1] ^= 1
	wantTaken(t, "a million bytes, doubled and bent", l, 1, string(b))
	b[1<<20-1] ^= 1
	wantTaken(t, "a million bytes", l, 0, string(b))
}

// scribble writes all the memory that a list has, the room behind its length too.
func scribble(b []byte) {
	b = b[:cap(b)]
	for i := range b {
		b[i] ^= 0x55
	}
}

func TestWhatIsHandedInIsNotKept(t *testing.T) {
	l := holding(t, 4)
	for n, s := range []string{"a", "bcd", "0123456789", string(make([]byte, 4096))} {
		b := []byte(s)
		l.Send(b)
		scribble(b)
		if got := string(l.All()[n]); got != s {
			t.Errorf("%d bytes were written behind Send, and are others on the link", len(s))
		}
	}
}

func TestWhatIsHandedInIsNotChanged(t *testing.T) {
	whole := []byte("abcdefgh")
	for n := range len(whole) + 1 {
		l := holding(t, 3)
		l.Send(whole[:n])
		l.Bend(0, 1, 1)
		l.Twice(0)
		l.Bend(1, 0, 1)
		b, _ := l.Take(0)
		scribble(b)
		for _, b := range l.All() {
			scribble(b)
		}
		b, _ = l.Take(0)
		_ = append(b, "more"...)
		scribble(b)
		if string(whole) != "abcdefgh" {
			t.Fatalf("the first %d were handed in, and all of it is %q now", n, whole)
		}
	}
}

// TestOneListSentOften: the same memory each time, with other bytes in it.
func TestOneListSentOften(t *testing.T) {
	l := holding(t, 64)
	b := make([]byte, 2)
	var want []string
	for n := range 64 {
		b[0], b[1] = byte(n), byte(n*n)
		l.Send(b)
		want = append(want, string(b))
	}
	wantRow(t, "sent from one memory", l, want...)
}

func TestWhatLiesBehindTheLengthIsNotHandedOut(t *testing.T) {
	whole := bytes.Repeat([]byte{0xa7}, 64)
	for n := range 33 {
		clear(whole[:n])
		l := holding(t, 2)
		l.Send(whole[:n])
		l.Twice(0)
		told := l.All()
		one, _ := l.Take(0)
		two, _ := l.Take(0)
		for _, b := range append(told, one, two) {
			if len(b) != n || bytes.IndexByte(b[:cap(b)], 0xa7) >= 0 {
				t.Fatalf("%d bytes were sent, told is % x, with % x behind it", n, b, b[len(b):cap(b)])
			}
		}
	}
}

// TestAllIsNewMemory writes all that All tells, the lists and their list, and looks for it on the link and in another answer.
func TestAllIsNewMemory(t *testing.T) {
	want := []string{"a", "bcd", "", "0123456789"}
	l := holding(t, 5, want...)
	one, two := l.All(), l.All()
	for _, b := range one {
		scribble(b)
	}
	_ = append(one, []byte("more"))
	slices.Reverse(one)
	clear(one)
	wantRow(t, "what was told was written", l, want...)
	for i, b := range two {
		if string(b) != want[i] {
			t.Errorf("one answer was written, another one has %q now, had %q", b, want[i])
		}
	}
}

func TestAllDoesNotFollowTheLink(t *testing.T) {
	l := holding(t, 4, "a", "b", "c")
	told := l.All()
	l.Bend(0, 0, 1)
	l.Take(1)
	l.Twice(0)
	l.Send([]byte("d"))
	if len(told) != 3 || string(told[0]) != "a" || string(told[1]) != "b" || string(told[2]) != "c" {
		t.Errorf("All told a, b, c, and has %q when the link has %q", told, texts(l))
	}
}

func TestListsOfOneAnswerShareNoMemory(t *testing.T) {
	l := holding(t, 8, "ab", "cd")
	l.Twice(0)
	l.Twice(0)
	told := l.All()
	for i := range told {
		was := slices.Clone(told)
		for j := range was {
			was[j] = bytes.Clone(told[j])
		}
		scribble(told[i])
		_ = append(told[i], "more"...)
		for j := range told {
			if j != i && !bytes.Equal(told[j], was[j]) {
				t.Fatalf("the %d-th was written, and the %d-th is %q now, was %q", i, j, told[j], was[j])
			}
		}
	}
}

// TestTakenIsNewMemory writes what was taken, and goes on with the link.
func TestTakenIsNewMemory(t *testing.T) {
	l := holding(t, 6, "ab", "cd", "ef")
	l.Twice(1)
	told := l.All()
	b, _ := l.Take(1)
	scribble(b)
	_ = append(b, "more"...)
	wantRow(t, "what was taken was written", l, "ab", "ef", "cd")
	if string(told[1]) != "cd" || string(told[3]) != "cd" {
		t.Errorf("what was taken was written, and an earlier answer is %q", told)
	}
}

func TestTakenDoesNotFollowTheLink(t *testing.T) {
	l := holding(t, 3, "ab", "cd", "ef")
	l.Twice(0)
	b, _ := l.Take(1)
	for range 3 {
		l.Send([]byte("zz"))
		for i := range 3 {
			l.Bend(i, 0, 255)
			l.Bend(i, 1, 255)
		}
		l.Take(0)
	}
	if string(b) != "cd" {
		t.Errorf("what was taken is %q now, was cd", b)
	}
}

// TestLinksKnowNothingOfEachOther goes on with one of two that were given the same.
func TestLinksKnowNothingOfEachOther(t *testing.T) {
	b := []byte("ab")
	one, two := New(2), New(2)
	one.Send(b)
	two.Send(b)
	one.Bend(0, 0, 1)
	one.Twice(0)
	wantRow(t, "the other one was changed", two, "ab")
	told, _ := one.Take(0)
	two.Send(told)
	scribble(told)
	wantRow(t, "from link to link", two, "ab", "\x60b")
	wantRow(t, "what is left", one, "\x60b")
	if !one.Send(nil) || two.Send(nil) {
		t.Error("the room of one is the other's")
	}
}

// model is a link told in the chapter's words, of texts, which can't be written.
type model struct {
	room int
	row  []string
}

func (m *model) send(s string) bool {
	if len(m.row) == m.room {
		return false
	}
	m.row = append(m.row, s)
	return true
}

func (m *model) has(i int) bool { return 0 <= i && i < len(m.row) }

func (m *model) take(i int) (string, bool) {
	if !m.has(i) {
		return "", false
	}
	s := m.row[i]
	m.row = append(slices.Clone(m.row[:i]), m.row[i+1:]...)
	return s, true
}

func (m *model) bend(i, at int, x byte) bool {
	if !m.has(i) || m.row[i] == "" || at < 0 || x == 0 {
		return false
	}
	b := []byte(m.row[i])
	b[at%len(b)] ^= x
	m.row[i] = string(b)
	return true
}

// play makes calls of bytes, four a call, and holds the link against the model behind each of them.
func play(t *testing.T, calls []byte) {
	t.Helper()
	if len(calls) == 0 {
		return
	}
	room := int(int8(calls[0]))
	l := New(room)
	if (l != nil) != (1 <= room && room <= 64) {
		t.Fatalf("New(%d): nil is %v", room, l == nil)
	}
	if l == nil {
		return
	}
	m := &model{room: room}
	for c := range slices.Chunk(calls[1:], 4) {
		if len(c) < 4 {
			return
		}
		playCall(t, l, m, c)
		wantRow(t, "behind a call", l, m.row...)
	}
}

func playCall(t *testing.T, l *Link, m *model, c []byte) {
	t.Helper()
	i, at := int(int8(c[1])), int(int8(c[2]))
	switch c[0] % 6 {
	case 0, 1, 2:
		b := bytes.Clone(c[:c[3]%5])
		if got, want := l.Send(b), m.send(string(b)); got != want {
			t.Fatalf("Send(% x) = %v, want %v", b, got, want)
		}
		scribble(b)
	case 3:
		b, ok := l.Take(i)
		if s, is := m.take(i); ok != is || string(b) != s {
			t.Fatalf("Take(%d) = % x, %v, want % x, %v", i, b, ok, s, is)
		}
		scribble(b)
	case 4:
		want := m.has(i) && m.send(m.row[i])
		if got := l.Twice(i); got != want {
			t.Fatalf("Twice(%d) = %v, want %v", i, got, want)
		}
	case 5:
		want := m.bend(i, at, c[3])
		if got := l.Bend(i, at, c[3]); got != want {
			t.Fatalf("Bend(%d, %d, %d) = %v, want %v", i, at, c[3], got, want)
		}
	}
}

// steps is n bytes, of which each hangs on the one before it, the same ones in each run.
func steps(n int, seed uint32) []byte {
	b := make([]byte, n)
	for i := range b {
		seed = seed*1664525 + 1013904223
		b[i] = byte(seed >> 24)
	}
	return b
}

func TestManyCalls(t *testing.T) {
	for room := 1; room <= 64; room++ {
		calls := steps(1+4*1500, uint32(room))
		calls[0] = byte(room)
		for at := 2; at < len(calls); at += 4 {
			// Most places are near those that there are; a few are left as they came.
			if calls[at]%8 != 0 {
				calls[at] = calls[at] % byte(room+2)
			}
		}
		play(t, calls)
	}
}

// FuzzCalls holds for any calls: no panic, and the row as the chapter has it.
func FuzzCalls(f *testing.F) {
	f.Add([]byte{})
	f.Add([]byte{0, 0, 0, 0, 1})
	f.Add([]byte{65, 0, 0, 0, 1})
	f.Add([]byte{3, 0, 0, 0, 1, 0, 0, 0, 2, 5, 0, 0, 4, 4, 0, 0, 0, 3, 1, 0, 0})
	f.Add([]byte{1, 0, 0, 0, 4, 4, 0, 0, 0, 5, 0, 255, 1, 3, 255, 0, 0, 3, 0, 0, 0})
	f.Fuzz(func(t *testing.T, calls []byte) { play(t, calls) })
}
