package islip

import (
	"slices"
	"testing"
)

// model is an arbiter told in the chapter's words, without masks: who asks, who grants whom, and who is matched are lists of bools.
type model struct {
	ports           int
	grants, accepts []int
}

func modelOf(ports int) *model {
	return &model{ports, make([]int, ports), make([]int, ports)}
}

// first is the first of so many that is chosen, from a place on, and round; -1: none.
func first(chosen []bool, from int) int {
	for i := range chosen[from:] {
		if chosen[from+i] {
			return from + i
		}
	}
	return slices.Index(chosen[:from], true)
}

func (m *model) run(requests []uint16, rounds int) []int {
	if len(requests) != m.ports || rounds < 1 || rounds > 16 {
		return nil
	}
	outputOf, inputOf := slices.Repeat([]int{-1}, m.ports), slices.Repeat([]int{-1}, m.ports)
	for round := 1; round <= rounds; round++ {
		granted := slices.Repeat([]int{-1}, m.ports)
		for out := range granted {
			if inputOf[out] >= 0 {
				continue
			}
			asks := make([]bool, m.ports)
			for in, request := range requests {
				asks[in] = outputOf[in] < 0 && request/(1<<out)%2 == 1
			}
			granted[out] = first(asks, m.grants[out])
		}
		for in := range m.ports {
			if outputOf[in] >= 0 {
				continue
			}
			offers := make([]bool, m.ports)
			for out := range offers {
				offers[out] = granted[out] == in
			}
			out := first(offers, m.accepts[in])
			if out < 0 {
				continue
			}
			outputOf[in], inputOf[out] = out, in
			if round == 1 {
				m.grants[out], m.accepts[in] = in+1, out+1
				if m.grants[out] == m.ports {
					m.grants[out] = 0
				}
				if m.accepts[in] == m.ports {
					m.accepts[in] = 0
				}
			}
		}
	}
	return outputOf
}

// both runs an arbiter and its model, and holds them against each other.
func both(t *testing.T, a *Arbiter, m *model, requests []uint16, rounds int) {
	t.Helper()
	was := *a
	was.grants, was.accepts = a.Grants(), a.Accepts()
	want := m.run(requests, rounds)
	got := a.Run(requests, rounds)
	if !slices.Equal(got, want) {
		t.Fatalf("from %v: Run(%b, %d) = %v, want %v", was, requests, rounds, got, want)
	}
	if !slices.Equal(a.grants, m.grants) || !slices.Equal(a.accepts, m.accepts) {
		t.Fatalf("from %v: Run(%b, %d) leads to %v, want %v", was, requests, rounds, *a, *m)
	}
	if len(got) > 0 {
		isMatching(t, requests, got)
		if rounds >= m.ports {
			nothingIsLeft(t, requests, got)
		}
	}
}

// isMatching holds of any rounds: each input has an output that it asks for, or none, and no two have the same.
func isMatching(t *testing.T, requests []uint16, outputs []int) {
	t.Helper()
	inputOf := map[int]int{}
	for in, out := range outputs {
		if out == -1 {
			continue
		}
		if out < 0 || out >= len(outputs) || requests[in]>>out&1 == 0 {
			t.Fatalf("%b: input %d has %d, for which it does not ask", requests, in, out)
		}
		if other, ok := inputOf[out]; ok {
			t.Fatalf("%b: inputs %d and %d have %d", requests, other, in, out)
		}
		inputOf[out] = in
	}
}

// nothingIsLeft holds of as many rounds as ports: no input without an output asks for one without an input.
func nothingIsLeft(t *testing.T, requests []uint16, outputs []int) {
	t.Helper()
	for in, request := range requests {
		for out := range outputs {
			if outputs[in] == -1 && request>>out&1 == 1 && !slices.Contains(outputs, out) {
				t.Fatalf("%b: %v, and input %d could have %d", requests, outputs, in, out)
			}
		}
	}
}

// requestsOf are the requests that a number tells, so many bits a port.
func requestsOf(number, ports int) []uint16 {
	requests := make([]uint16, ports)
	for in := range requests {
		requests[in] = uint16(number >> (in * ports) & (1<<ports - 1))
	}
	return requests
}

// placesOf are where so many ports look first, by a number.
func placesOf(number, ports int) []int {
	places := make([]int, ports)
	for i := range places {
		places[i] = number % ports
		number /= ports
	}
	return places
}

// TestEveryRunOfFewPorts runs all requests, from all places, in all rounds that tell anything.
func TestEveryRunOfFewPorts(t *testing.T) {
	for ports := 1; ports <= 3; ports++ {
		ends := 1
		for range ports {
			ends *= ports
		}
		for grants := range ends {
			for accepts := range ends {
				for number := range 1 << (ports * ports) {
					for rounds := 1; rounds <= ports+1; rounds++ {
						a := &Arbiter{placesOf(grants, ports), placesOf(accepts, ports)}
						m := &model{ports, placesOf(grants, ports), placesOf(accepts, ports)}
						both(t, a, m, requestsOf(number, ports), rounds)
					}
				}
			}
		}
	}
}

// TestEveryRequestOfFourPorts goes on from run to run, so that places come as they come.
func TestEveryRequestOfFourPorts(t *testing.T) {
	for rounds := 1; rounds <= 4; rounds++ {
		a, m := begun(t, 4), modelOf(4)
		for number := range 1 << 16 {
			both(t, a, m, requestsOf(number*40503%65536, 4), rounds)
		}
	}
}

// steps are numbers in no simple order.
type steps uint64

func (s *steps) next() int {
	*s = *s*6364136223846793005 + 1442695040888963407
	return int(*s >> 33)
}

// TestManyRuns: of any ports, in any rounds, with few requests and with many, with bits that are no port's, and with some that are refused between.
func TestManyRuns(t *testing.T) {
	s := steps(10)
	for ports := 1; ports <= 16; ports++ {
		a, m := begun(t, ports), modelOf(ports)
		for range 4000 {
			requests := make([]uint16, ports)
			sparse := s.next() % 4
			for in := range requests {
				request := uint16(s.next())
				for range sparse {
					request &= uint16(s.next())
				}
				requests[in] = request
			}
			if s.next()%50 == 0 {
				requests = requests[1:]
			}
			both(t, a, m, requests, s.next()%18)
		}
	}
}

// TestNobodyStarves: who asks for one output all the while has it within so many runs as there are pairs, whoever else asks.
func TestNobodyStarves(t *testing.T) {
	s := steps(11)
	for ports := 1; ports <= 8; ports++ {
		for rounds := 1; rounds <= 3; rounds++ {
			a := begun(t, ports)
			waits := make([]int, ports)
			for range 2000 {
				requests := make([]uint16, ports)
				for in := range requests {
					requests[in] = uint16(s.next()) | 1<<(in*3%ports)
				}
				for in, out := range a.Run(requests, rounds) {
					waits[in]++
					if out == in*3%ports {
						waits[in] = 0
					}
					if waits[in] > ports*ports {
						t.Fatalf("%d ports, %d rounds: input %d asked %d times for %d", ports, rounds, in, waits[in], in*3%ports)
					}
				}
			}
		}
	}
}

// FuzzRuns plays runs that bytes tell: of how many ports, then, for each run, its rounds and its requests.
func FuzzRuns(f *testing.F) {
	f.Add(2, []byte{1, 3, 0, 3, 0, 1, 3, 0, 3, 0})
	f.Add(16, slices.Repeat([]byte{16, 255}, 40))
	f.Add(1, []byte{0, 1, 0, 17, 1, 0, 1, 255, 255})
	f.Add(0, []byte{1})
	f.Add(17, []byte{1})
	f.Add(-1<<63, []byte{})
	f.Fuzz(func(t *testing.T, ports int, b []byte) {
		a := New(ports)
		if (a != nil) != (1 <= ports && ports <= 16) {
			t.Fatalf("New(%d) = %v", ports, a)
		}
		if a == nil {
			return
		}
		m := modelOf(ports)
		for row := range slices.Chunk(b, 1+2*ports) {
			var requests []uint16
			for two := range slices.Chunk(row[1:], 2) {
				requests = append(requests, uint16(two[0])|uint16(two[len(two)-1])<<8)
			}
			both(t, a, m, requests, int(int8(row[0])))
		}
	})
}
