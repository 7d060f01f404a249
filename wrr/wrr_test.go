package wrr

import (
	"math"
	"slices"
	"sync"
	"testing"
)

// nowhere are numbers that are no weights.
var nowhere = []int{0, 6, -1, -2, -3, -5, -6, -8, -256, 7, 8, 9, 10, 15, 16, 17, 64, 127, 128, 129, 255, 256, 257, 258, 65535, 65536, 65537, 65540, 1<<31 - 1, 1 << 31, 1 << 32, 1<<32 + 1, 1<<32 + 5, -1 << 31, -1<<31 + 2, -1 << 32, -1<<32 + 1, math.MaxInt, math.MaxInt - 1, math.MinInt, math.MinInt + 1, math.MinInt + 2}

func begun(t *testing.T, weights ...int) *Wheel {
	t.Helper()
	w := New(weights)
	if w == nil {
		t.Fatalf("New(%v) = nil", weights)
	}
	return w
}

func wantPicks(t *testing.T, w *Wheel, may uint16, want ...int) {
	t.Helper()
	for i, lane := range want {
		if got := w.Pick(may); got != lane {
			t.Fatalf("time %d: Pick(%b) = %d, want %d", i, may, got, lane)
		}
	}
}

func wantLeft(t *testing.T, w *Wheel, want ...int) {
	t.Helper()
	if got := w.Left(); !slices.Equal(got, want) {
		t.Fatalf("Left() = %v, want %v", got, want)
	}
}

// everyWeights are all weights of so many lanes.
func everyWeights(lanes int) [][]int {
	all := [][]int{nil}
	for range lanes {
		var longer [][]int
		for _, weights := range all {
			for weight := 1; weight <= 5; weight++ {
				longer = append(longer, append(slices.Clone(weights), weight))
			}
		}
		all = longer
	}
	return all
}

func TestNew(t *testing.T) {
	for lanes := 1; lanes <= 3; lanes++ {
		for _, weights := range everyWeights(lanes) {
			wantLeft(t, begun(t, weights...), weights...)
			for lane := range weights {
				for _, wrong := range nowhere {
					others := slices.Clone(weights)
					others[lane] = wrong
					if New(others) != nil {
						t.Fatalf("New(%v) is one", others)
					}
				}
			}
		}
	}
	for _, lanes := range []int{0, 4, 5, 6, 15, 16, 17, 255, 256, 257, 258, 65536, 65537, 65539} {
		if New(slices.Repeat([]int{1}, lanes)) != nil {
			t.Errorf("New of %d weights is one", lanes)
		}
	}
	if New(nil) != nil || New([]int{}) != nil {
		t.Error("New of no weights is one")
	}
}

// TestExample is the chapter's.
func TestExample(t *testing.T) {
	wantPicks(t, begun(t, 2, 1), 3, 0, 1, 0, 1, 0, 0)
}

func TestPick(t *testing.T) {
	for _, c := range []struct {
		name    string
		weights []int
		may     []uint16
		want    []int
		left    []int
	}{
		{"one lane, that comes round", []int{2}, []uint16{1, 1, 1}, []int{0, 0, 0}, []int{1}},
		{"none may", []int{1, 1}, []uint16{0}, []int{-1}, []int{1, 1}},
		{"one may that is no lane", []int{1, 1}, []uint16{4}, []int{-1}, []int{1, 1}},
		{"all may that are no lanes", []int{1, 1}, []uint16{0xfffc}, []int{-1}, []int{1, 1}},
		{"no lanes beside one", []int{1, 1}, []uint16{0xfffe}, []int{1}, []int{1, 0}},
		{"no lanes beside one, round", []int{2, 1}, []uint16{0xfffd, 0xfffd}, []int{0, 0}, []int{0, 1}},
		{"no lanes keep none from being filled", []int{1, 1}, []uint16{1, 0xfffd}, []int{0, 0}, []int{0, 1}},
		{"each once", []int{1, 1, 1}, []uint16{7, 7, 7}, []int{0, 1, 2}, []int{0, 0, 0}},
		{"looks from the next one", []int{3, 3, 3}, []uint16{1, 7, 7, 7}, []int{0, 1, 2, 0}, []int{1, 2, 2}},
		{"the last one, then from 0 on", []int{3, 3, 3}, []uint16{4, 7}, []int{2, 0}, []int{2, 3, 2}},
		{"behind the one that came, not behind the one looked from", []int{3, 3, 3}, []uint16{2, 5, 7}, []int{1, 2, 0}, []int{2, 2, 2}},
		{"who is left none is passed by", []int{1, 2, 2}, []uint16{1, 4, 7}, []int{0, 2, 1}, []int{0, 1, 1}},
		{"one that may is left some: none is filled", []int{1, 2}, []uint16{1, 3, 3}, []int{0, 1, 1}, []int{0, 0}},
		{"one that may not is left some: all are filled", []int{1, 2}, []uint16{2, 1, 1}, []int{1, 0, 0}, []int{0, 2}},
		{"it looks on from there when all are filled", []int{1, 1, 1}, []uint16{2, 4, 1, 2, 7}, []int{1, 2, 0, 1, 2}, []int{1, 0, 0}},
		{"none may, and none is left any: none is filled", []int{1, 1}, []uint16{3, 3, 0, 4}, []int{0, 1, -1, -1}, []int{0, 0}},
		{"none may: it looks from the same", []int{2, 2}, []uint16{1, 0, 8, 3}, []int{0, -1, -1, 1}, []int{1, 1}},
		{"by weights", []int{5, 3, 1}, []uint16{7, 7, 7, 7, 7, 7, 7, 7, 7, 7}, []int{0, 1, 2, 0, 1, 0, 1, 0, 0, 1}, []int{5, 2, 1}},
	} {
		t.Run(c.name, func(t *testing.T) {
			w := begun(t, c.weights...)
			for i, may := range c.may {
				wantPicks(t, w, may, c.want[i])
			}
			wantLeft(t, w, c.left...)
		})
	}
}

// TestRoundsAreByWeights: if all may come all the while, each comes as often in a round as its weight is.
func TestRoundsAreByWeights(t *testing.T) {
	for lanes := 1; lanes <= 3; lanes++ {
		for _, weights := range everyWeights(lanes) {
			w := begun(t, weights...)
			for range 4 {
				came := make([]int, lanes)
				for _, weight := range weights {
					for range weight {
						came[w.Pick(0xffff)]++
					}
				}
				if !slices.Equal(came, weights) {
					t.Fatalf("%v: in a round came %v", weights, came)
				}
				wantLeft(t, w, make([]int, lanes)...)
			}
		}
	}
}

// TestWeightsAreLeftAsTheyAre looks at what lies behind their length too, which is not read either.
func TestWeightsAreLeftAsTheyAre(t *testing.T) {
	whole := []int{2, 1, 3, 9, -1, 5}
	for lanes := 1; lanes <= 3; lanes++ {
		w := begun(t, whole[:lanes]...)
		for range 20 {
			w.Pick(7)
			w.Left()
		}
		if !slices.Equal(whole, []int{2, 1, 3, 9, -1, 5}) {
			t.Fatalf("weights, or what lies behind them, are changed: %v", whole)
		}
	}
	if New(whole[:0]) != nil || New(whole[:4]) != nil || New(whole[4:]) != nil {
		t.Error("one of wrong weights")
	}
}

// TestMemoryIsNew writes all that was handed in and told, up to its capacity, and asks on.
func TestMemoryIsNew(t *testing.T) {
	spoil := func(x []int) {
		x = x[:cap(x)]
		for i := range x {
			x[i] = -7
		}
	}
	for lanes := 1; lanes <= 3; lanes++ {
		for _, weights := range everyWeights(lanes) {
			handed := append(make([]int, 0, 8), weights...)
			a, b := begun(t, handed...), begun(t, weights...)
			spoil(handed)
			for range 20 {
				told := a.Left()
				was := slices.Clone(told)
				spoil(a.Left())
				wantPicks(t, b, 7, a.Pick(7))
				if !slices.Equal(told, was) {
					t.Fatalf("%v: what was told is changed", weights)
				}
				spoil(told)
				wantLeft(t, a, b.Left()...)
			}
		}
	}
}

// TestWheelsKnowNothingOfEachOther turns some in turns, of other weights and the same.
func TestWheelsKnowNothingOfEachOther(t *testing.T) {
	weights := []int{2, 1}
	a, b, c := New(weights), New(weights), New(append(weights, 3))
	wantPicks(t, a, 3, 0, 1)
	wantPicks(t, c, 7, 0, 1, 2)
	wantLeft(t, a, 1, 0)
	wantLeft(t, b, 2, 1)
	wantLeft(t, c, 1, 0, 2)
	wantPicks(t, b, 3, 0)
	wantPicks(t, a, 3, 0, 1)
	wantPicks(t, c, 7, 0, 2)
	wantPicks(t, b, 3, 1)
}

func TestWheelsSideBySide(t *testing.T) {
	var joined sync.WaitGroup
	weights := []int{5, 2, 3}
	ends := make([][]int, 8)
	for i := range ends {
		joined.Go(func() {
			w := New(weights)
			for may := range 1000 {
				ends[i] = append(ends[i], w.Pick(uint16(may)))
			}
			ends[i] = append(ends[i], w.Left()...)
		})
	}
	joined.Wait()
	for _, end := range ends {
		if !slices.Equal(end, ends[0]) {
			t.Error("wheels were told something else")
		}
	}
}
