package islip

import (
	"math"
	"slices"
	"sync"
	"testing"
)

// nowhere are numbers that are none of 0 to 17.
var nowhere = []int{-1, -2, -15, -16, -17, -32, -64, -256, 18, 19, 31, 32, 33, 63, 64, 65, 128, 255, 256, 257, 272, 65535, 65536, 65537, 65552, 1<<31 - 1, 1 << 31, 1 << 32, 1<<32 + 1, 1<<32 + 2, 1<<32 + 16, -1 << 31, -1<<31 + 2, -1 << 32, -1<<32 + 2, math.MaxInt, math.MaxInt - 1, math.MinInt, math.MinInt + 1, math.MinInt + 2}

func begun(t *testing.T, ports int) *Arbiter {
	t.Helper()
	a := New(ports)
	if a == nil {
		t.Fatalf("New(%d) = nil", ports)
	}
	return a
}

// all are the requests of so many ports, each of which asks for all.
func all(ports int) []uint16 {
	return slices.Repeat([]uint16{1<<ports - 1}, ports)
}

func wantRun(t *testing.T, a *Arbiter, requests []uint16, rounds int, want ...int) {
	t.Helper()
	if got := a.Run(requests, rounds); !slices.Equal(got, want) {
		t.Fatalf("Run(%b, %d) = %v, want %v", requests, rounds, got, want)
	}
}

func wantLooks(t *testing.T, a *Arbiter, grants, accepts []int) {
	t.Helper()
	if g, c := a.Grants(), a.Accepts(); !slices.Equal(g, grants) || !slices.Equal(c, accepts) {
		t.Fatalf("grants from %v, accepts from %v, want %v, %v", g, c, grants, accepts)
	}
}

func TestNew(t *testing.T) {
	for ports := 1; ports <= 16; ports++ {
		a := begun(t, ports)
		wantLooks(t, a, make([]int, ports), make([]int, ports))
	}
	for _, ports := range append([]int{0, 17}, nowhere...) {
		if New(ports) != nil {
			t.Errorf("New(%d) is one", ports)
		}
	}
}

// TestExample is the chapter's.
func TestExample(t *testing.T) {
	a := begun(t, 2)
	wantRun(t, a, []uint16{3, 3}, 1, 0, -1)
	wantLooks(t, a, []int{1, 0}, []int{1, 0})
	wantRun(t, a, []uint16{3, 3}, 1, 1, 0)
	wantLooks(t, a, []int{0, 1}, []int{0, 1})
	wantRun(t, a, []uint16{3, 3}, 1, 0, 1)
	wantLooks(t, a, []int{1, 0}, []int{1, 0})
}

func TestRun(t *testing.T) {
	for _, c := range []struct {
		name            string
		requests        []uint16
		rounds          int
		want            []int
		grants, accepts []int
	}{
		{"nobody asks", []uint16{0, 0, 0}, 3, []int{-1, -1, -1}, []int{0, 0, 0}, []int{0, 0, 0}},
		{"one asks for one", []uint16{0, 4, 0}, 1, []int{-1, 2, -1}, []int{0, 0, 2}, []int{0, 0, 0}},
		{"one asks for all", []uint16{0, 7, 0}, 3, []int{-1, 0, -1}, []int{2, 0, 0}, []int{0, 1, 0}},
		{"all ask for one", []uint16{2, 2, 2}, 3, []int{1, -1, -1}, []int{0, 1, 0}, []int{2, 0, 0}},
		{"each asks for another", []uint16{2, 4, 1}, 1, []int{1, 2, 0}, []int{0, 1, 2}, []int{2, 0, 1}},
		{"the last one asks for the last one: both look at 0 again", []uint16{0, 0, 4}, 1, []int{-1, -1, 2}, []int{0, 0, 0}, []int{0, 0, 0}},
		{"the first round finds one", []uint16{3, 1, 0}, 1, []int{0, -1, -1}, []int{1, 0, 0}, []int{1, 0, 0}},
		{"no round frees what is matched", []uint16{3, 1, 0}, 3, []int{0, -1, -1}, []int{1, 0, 0}, []int{1, 0, 0}},
		{"what the second round finds moves nothing", []uint16{3, 2, 0}, 2, []int{0, 1, -1}, []int{1, 0, 0}, []int{1, 0, 0}},
		{"what the third round finds moves nothing", []uint16{7, 6, 4}, 3, []int{0, 1, 2}, []int{1, 0, 0}, []int{1, 0, 0}},
		{"two of three rounds", []uint16{7, 6, 4}, 2, []int{0, 1, -1}, []int{1, 0, 0}, []int{1, 0, 0}},
		{"a request for itself", []uint16{1, 2, 4}, 1, []int{0, 1, 2}, []int{1, 2, 0}, []int{1, 2, 0}},
		{"16 rounds", []uint16{7, 7, 7}, 16, []int{0, 1, 2}, []int{1, 0, 0}, []int{1, 0, 0}},
		{"ports that are none", []uint16{0xfff8, 0xfffa, 8}, 3, []int{-1, 1, -1}, []int{0, 2, 0}, []int{0, 2, 0}},
		{"one port", []uint16{1}, 1, []int{0}, []int{0}, []int{0}},
		{"one port, that asks for others", []uint16{0xfffe}, 1, []int{-1}, []int{0}, []int{0}},
	} {
		t.Run(c.name, func(t *testing.T) {
			a := begun(t, len(c.requests))
			wantRun(t, a, c.requests, c.rounds, c.want...)
			wantLooks(t, a, c.grants, c.accepts)
		})
	}
}

// TestOneMoreInEachRound: at the beginning all look at 0 first, so that, if all ask for all, each round finds one pair, and as many rounds are needed as there are ports.
func TestOneMoreInEachRound(t *testing.T) {
	for ports := 1; ports <= 16; ports++ {
		for rounds := 1; rounds <= 16; rounds++ {
			a := begun(t, ports)
			want := slices.Repeat([]int{-1}, ports)
			for i := range min(ports, rounds) {
				want[i] = i
			}
			wantRun(t, a, all(ports), rounds, want...)
			looks := make([]int, ports)
			looks[0] = 1 % ports
			wantLooks(t, a, looks, looks)
		}
	}
}

// TestAllInOneRound: if all ask for all, again and again, they come to look at different ones, and from then on one round finds all.
func TestAllInOneRound(t *testing.T) {
	for ports := 1; ports <= 16; ports++ {
		a := begun(t, ports)
		for range ports - 1 {
			a.Run(all(ports), 1)
		}
		served := make([][]int, ports)
		for range ports {
			for in, out := range a.Run(all(ports), 1) {
				served[in] = append(served[in], out)
			}
		}
		for in := range served {
			slices.Sort(served[in])
			for out := range ports {
				if served[in][out] != out {
					t.Fatalf("%d ports: input %d had %v", ports, in, served[in])
				}
			}
		}
	}
}

// TestRefused: what is no run answers nothing, and moves nothing.
func TestRefused(t *testing.T) {
	for ports := 1; ports <= 16; ports++ {
		a := begun(t, ports)
		a.Run(all(ports), 1)
		a.Run(all(ports), 1)
		grants, accepts := a.Grants(), a.Accepts()
		for _, rounds := range append([]int{0, 17}, nowhere...) {
			wantRun(t, a, all(ports), rounds)
		}
		for length := range 40 {
			if length == ports {
				continue
			}
			for _, rounds := range []int{-1, 0, 1, 2, ports, 16, 17} {
				wantRun(t, a, slices.Repeat([]uint16{0xffff}, length), rounds)
			}
		}
		for _, length := range []int{255 + ports, 256 + ports, 65536 + ports} {
			wantRun(t, a, slices.Repeat([]uint16{0xffff}, length), 1)
		}
		wantRun(t, a, nil, 1)
		wantLooks(t, a, grants, accepts)
	}
}

// TestRequestsAreLeftAsTheyAre looks at what lies behind their length too, which is not read either.
func TestRequestsAreLeftAsTheyAre(t *testing.T) {
	for ports := 1; ports <= 16; ports++ {
		whole := make([]uint16, 40)
		for i := range whole {
			whole[i] = uint16(40503 * (i + ports))
		}
		was := slices.Clone(whole)
		a, b := begun(t, ports), begun(t, ports)
		for range 5 {
			got := a.Run(whole[:ports], ports)
			wantRun(t, b, slices.Clone(was[:ports]), ports, got...)
		}
		wantRun(t, a, whole[:ports-1], 1)
		if !slices.Equal(whole, was) {
			t.Fatalf("%d ports: requests, or what lies behind them, are changed", ports)
		}
	}
}

// TestAnswersAreNew writes all that was handed in and told, up to its capacity, and asks on.
func TestAnswersAreNew(t *testing.T) {
	spoil := func(x []int) {
		x = x[:cap(x)]
		for i := range x {
			x[i] = -7
		}
	}
	for ports := 1; ports <= 16; ports++ {
		a, b := begun(t, ports), begun(t, ports)
		for range 5 {
			requests := all(ports)
			got := a.Run(requests, 2)
			grants, accepts := a.Grants(), a.Accepts()
			was := [][]int{slices.Clone(got), slices.Clone(grants), slices.Clone(accepts)}
			clear(requests)
			spoil(a.Grants())
			spoil(a.Accepts())
			if !slices.Equal(got, was[0]) || !slices.Equal(grants, was[1]) || !slices.Equal(accepts, was[2]) {
				t.Fatalf("%d ports: what was told is changed", ports)
			}
			wantRun(t, b, all(ports), 2, got...)
			spoil(got)
			spoil(grants)
			spoil(accepts)
			wantLooks(t, a, b.Grants(), b.Accepts())
		}
	}
}

// TestArbitersKnowNothingOfEachOther runs some in turns, of other ports and the same.
func TestArbitersKnowNothingOfEachOther(t *testing.T) {
	a, b, c := begun(t, 2), begun(t, 2), begun(t, 3)
	wantRun(t, a, []uint16{3, 3}, 1, 0, -1)
	wantRun(t, c, []uint16{7, 7, 7}, 1, 0, -1, -1)
	wantLooks(t, b, []int{0, 0}, []int{0, 0})
	wantRun(t, b, []uint16{2, 0}, 1, 1, -1)
	wantLooks(t, a, []int{1, 0}, []int{1, 0})
	wantLooks(t, b, []int{0, 1}, []int{0, 0})
	wantLooks(t, c, []int{1, 0, 0}, []int{1, 0, 0})
}

func TestArbitersSideBySide(t *testing.T) {
	var joined sync.WaitGroup
	requests := all(5)
	ends := make([][]int, 8)
	for i := range ends {
		joined.Go(func() {
			a := New(5)
			for range 200 {
				ends[i] = a.Run(requests, 3)
			}
		})
	}
	joined.Wait()
	for _, end := range ends {
		if !slices.Equal(end, ends[0]) {
			t.Errorf("arbiters were told something else: %v", ends)
		}
	}
}
