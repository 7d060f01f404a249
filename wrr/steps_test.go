package wrr

import (
	"slices"
	"testing"
)

// model is a wheel told in the chapter's words, without masks.
type model struct {
	weights, left []int
	from          int
}

func modelOf(weights []int) *model {
	return &model{slices.Clone(weights), slices.Clone(weights), 0}
}

// in says whether a lane is in may.
func in(may uint16, lane int) bool { return may/(1<<lane)%2 == 1 }

func (m *model) pick(may uint16) int {
	anyMay, anyLeft := false, false
	for lane := range m.weights {
		if in(may, lane) {
			anyMay = true
			anyLeft = anyLeft || m.left[lane] > 0
		}
	}
	if !anyMay {
		return -1
	}
	if !anyLeft {
		m.left = slices.Clone(m.weights)
	}
	lane := m.from
	for !in(may, lane) || m.left[lane] == 0 {
		lane++
		if lane == len(m.weights) {
			lane = 0
		}
	}
	m.left[lane]--
	m.from = lane + 1
	if m.from == len(m.weights) {
		m.from = 0
	}
	return lane
}

// both turns a wheel and its model, and holds them against each other.
func both(t *testing.T, w *Wheel, m *model, may uint16) int {
	t.Helper()
	left, from := slices.Clone(m.left), m.from
	want := m.pick(may)
	got := w.Pick(may)
	if got != want || !slices.Equal(w.Left(), m.left) || w.from != m.from {
		t.Fatalf("weights %v, left %v, from %d: Pick(%b) = %d, and left %v, from %d; want %d, %v, %d", m.weights, left, from, may, got, w.Left(), w.from, want, m.left, m.from)
	}
	return got
}

// TestEveryPick turns every wheel from whatever it may be left, with all that may come, and bits that are no lanes.
func TestEveryPick(t *testing.T) {
	for lanes := 1; lanes <= 3; lanes++ {
		for _, weights := range everyWeights(lanes) {
			for _, left := range everyLeft(weights) {
				for from := range lanes {
					for may := range uint16(8) {
						for _, others := range []uint16{0, 0x8000, 0xfff8} {
							w := &Wheel{slices.Clone(weights), slices.Clone(left), from}
							m := &model{weights, slices.Clone(left), from}
							both(t, w, m, may|others)
						}
					}
				}
			}
		}
	}
}

// everyLeft are all that lanes may be left, by weights.
func everyLeft(weights []int) [][]int {
	all := [][]int{nil}
	for _, weight := range weights {
		var longer [][]int
		for _, left := range all {
			for n := range weight + 1 {
				longer = append(longer, append(slices.Clone(left), n))
			}
		}
		all = longer
	}
	return all
}

// steps are numbers in no simple order.
type steps uint64

func (s *steps) next() int {
	*s = *s*6364136223846793005 + 1442695040888963407
	return int(*s >> 33)
}

// TestManyPicks goes on from pick to pick.
func TestManyPicks(t *testing.T) {
	s := steps(11)
	for lanes := 1; lanes <= 3; lanes++ {
		for _, weights := range everyWeights(lanes) {
			w, m := begun(t, weights...), modelOf(weights)
			for range 500 {
				both(t, w, m, uint16(s.next()))
			}
		}
	}
}

// TestNeitherGetsAhead: of two lanes that may come all the time neither gets ahead of the other one by more than two rounds of its weight, from any time to any later one, whatever the third one may.
func TestNeitherGetsAhead(t *testing.T) {
	s := steps(12)
	for lanes := 2; lanes <= 3; lanes++ {
		for _, weights := range everyWeights(lanes) {
			for _, pair := range [][2]int{{0, 1}, {0, 2}, {1, 2}} {
				if pair[1] >= lanes {
					continue
				}
				w := begun(t, weights...)
				for range s.next() % 20 {
					w.Pick(uint16(s.next()))
				}
				staysBeside(t, w, pair, func() uint16 { return uint16(s.next()) })
			}
		}
	}
}

// staysBeside turns a wheel, with a pair that may always come, and others that may. Ahead is by how much, in rounds of both weights, the first one came more often; the least and the greatest of it bound every stretch of time.
func staysBeside(t *testing.T, w *Wheel, pair [2]int, others func() uint16) {
	t.Helper()
	one, other := w.weights[pair[0]], w.weights[pair[1]]
	ahead, least, greatest := 0, 0, 0
	for range 300 {
		switch w.Pick(others() | 1<<pair[0] | 1<<pair[1]) {
		case pair[0]:
			ahead += other
		case pair[1]:
			ahead -= one
		}
		least, greatest = min(least, ahead), max(greatest, ahead)
		if greatest-least > 2*one*other {
			t.Fatalf("%v: lanes %v: one is ahead by more than two rounds", w.weights, pair)
		}
	}
}

// TestNobodyStarves: who may come all the time comes within a round of all.
func TestNobodyStarves(t *testing.T) {
	s := steps(13)
	for _, weights := range everyWeights(3) {
		for lane := range weights {
			w := begun(t, weights...)
			waits := 0
			for range 300 {
				waits++
				if w.Pick(uint16(s.next())|1<<lane) == lane {
					waits = 0
				}
				if waits > weights[0]+weights[1]+weights[2] {
					t.Fatalf("%v: lane %d waits %d times", weights, lane, waits)
				}
			}
		}
	}
}

// FuzzPicks plays picks that bytes tell: weights, as signed bytes, then who may come.
func FuzzPicks(f *testing.F) {
	f.Add([]byte{2, 1}, []byte{3, 0, 3, 0, 3, 0, 3, 0, 3, 0, 3, 0})
	f.Add([]byte{5, 5, 5}, slices.Repeat([]byte{255}, 60))
	f.Add([]byte{1}, []byte{1, 0, 254, 255, 0, 0})
	f.Add([]byte{}, []byte{1})
	f.Add([]byte{1, 2, 3, 4}, []byte{1})
	f.Add([]byte{1, 6}, []byte{1})
	f.Add([]byte{0, 255}, []byte{1})
	f.Fuzz(func(t *testing.T, bytes, picks []byte) {
		sound := 1 <= len(bytes) && len(bytes) <= 3
		var weights []int
		for _, b := range bytes {
			weights = append(weights, int(int8(b)))
			sound = sound && 1 <= b && b <= 5
		}
		w := New(weights)
		if (w != nil) != sound {
			t.Fatalf("New(%v) = %v", weights, w)
		}
		if w == nil {
			return
		}
		m := modelOf(weights)
		for two := range slices.Chunk(picks, 2) {
			both(t, w, m, uint16(two[0])|uint16(two[len(two)-1])<<8)
		}
	})
}
