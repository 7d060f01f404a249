package plan

import (
	"math"
	"slices"
	"testing"

	"shunter/api"
)

// modelCheck is Check in the chapter's words, one by one.
func modelCheck(p api.Plan) api.Errno {
	fine := 2 <= p.Nodes && p.Nodes <= 6 && 1 <= p.Lanes && p.Lanes <= 3 && 1 <= p.Room && p.Room <= 8 && 1 <= p.Queue && p.Queue <= 8 &&
		1 <= p.Rounds && p.Rounds <= 4 && 1 <= p.Every && p.Every <= 8 && 1 <= p.Bag && p.Bag <= 64
	for i, e := range p.Edges {
		fine = fine && 0 <= e.A && e.A < p.Nodes && 0 <= e.B && e.B < p.Nodes && e.A < e.B
		for _, f := range p.Edges[:i] {
			fine = fine && (e.A != f.A || e.B != f.B)
		}
	}
	fine = fine && len(p.Weights) == p.Lanes && len(p.Next) == p.Nodes
	for _, weight := range p.Weights {
		fine = fine && 1 <= weight && weight <= 5
	}
	for _, row := range p.Next {
		fine = fine && len(row) == p.Nodes
	}
	if fine {
		return api.OK
	}
	return api.ErrPlan
}

// modelBeside goes from each node beside v to the least one above it.
func modelBeside(p api.Plan, v int) []int {
	var beside []int
	for {
		least, found := 0, false
		look := func(one, other int) {
			above := len(beside) == 0 || other > beside[len(beside)-1]
			if one == v && other != v && above && (!found || other < least) {
				least, found = other, true
			}
		}
		for _, e := range p.Edges {
			look(e.A, e.B)
			look(e.B, e.A)
		}
		if !found {
			return beside
		}
		beside = append(beside, least)
	}
}

// modelHops goes through all that could be one.
func modelHops(p api.Plan) []api.Hop {
	var hops []api.Hop
	for v := range 6 {
		for w := range 6 {
			joins := slices.Contains(p.Edges, api.Edge{A: v, B: w}) || slices.Contains(p.Edges, api.Edge{A: w, B: v})
			if v < p.Nodes && v != w && joins {
				hops = append(hops, api.Hop{From: v, To: w})
			}
		}
	}
	return hops
}

// hold asks a plan all that there is to ask, holds it against the model, and looks that the plan is as it was.
func hold(t *testing.T, p api.Plan) {
	t.Helper()
	before := deepClone(p)
	wantCheck(t, p, modelCheck(p))
	asked := []int{-1, 0, 1, 2, 3, 4, 5, 6, 7, math.MinInt, math.MaxInt}
	for _, e := range p.Edges[:min(len(p.Edges), 20)] {
		asked = append(asked, e.A, e.B)
	}
	for _, v := range asked {
		beside := modelBeside(p, v)
		wantBeside(t, p, v, beside...)
		for _, w := range asked {
			port := slices.Index(beside, w)
			if port >= 0 {
				port++
			}
			wantPort(t, p, v, w, port)
		}
	}
	if got, want := Hops(p), modelHops(p); !slices.Equal(got, want) {
		t.Fatalf("%+v: Hops = %v, want %v", p, got, want)
	}
	if !same(p, before) {
		t.Fatalf("a plan is changed: %+v, it was %+v", p, before)
	}
}

// steps are numbers in no simple order.
type steps uint64

func (s *steps) below(n int) int {
	*s = *s*6364136223846793005 + 1442695040888963407
	return int(*s>>33) % n
}

// TestManyPlans has plans that may be, of which most get something that may be wrong.
func TestManyPlans(t *testing.T) {
	s := steps(12)
	count := map[api.Errno]int{}
	for range 8000 {
		p := sound(2+s.below(5), 1+s.below(3))
		for i := range p.Weights {
			p.Weights[i] = 1 + s.below(5)
		}
		for i := range p.Edges {
			k := s.below(i + 1)
			p.Edges[i], p.Edges[k] = p.Edges[k], p.Edges[i]
		}
		p.Edges = p.Edges[:s.below(len(p.Edges)+1)]
		for range s.below(3) {
			disturb(&p, &s)
		}
		hold(t, p)
		count[Check(p)]++
	}
	if count[api.OK] < 1000 || count[api.ErrPlan] < 1000 {
		t.Errorf("too few of a kind: %v", count)
	}
}

// disturb sets something of a plan: to what may be, or not.
func disturb(p *api.Plan, s *steps) {
	numbers := []*int{&p.Nodes, &p.Lanes, &p.Room, &p.Queue, &p.Rounds, &p.Every, &p.Bag}
	switch s.below(5) {
	case 0:
		*numbers[s.below(len(numbers))] = s.below(10)
	case 1:
		p.Bag = s.below(70)
	case 2:
		p.Edges = append(p.Edges, api.Edge{A: s.below(9) - 1, B: s.below(9) - 1})
	case 3:
		p.Weights = append(p.Weights, s.below(7))[:s.below(len(p.Weights)+2)]
	case 4:
		if len(p.Next) > 0 {
			row := s.below(len(p.Next))
			p.Next[row] = make([]int, s.below(8))
		}
	}
}

// TestAnyEdges has edges of any numbers, small and far apart, many of them there more than once.
func TestAnyEdges(t *testing.T) {
	s := steps(13)
	ends := []int{-2, -1, 0, 1, 2, 3, 4, 5, 6, 7, 256, 1 << 32, 1<<32 + 1, math.MinInt, math.MaxInt}
	for range 2000 {
		p := sound(s.below(12)-2, 1)
		p.Edges = nil
		for range s.below(25) {
			p.Edges = append(p.Edges, api.Edge{A: ends[s.below(len(ends))], B: ends[s.below(len(ends))]})
		}
		hold(t, p)
	}
}

// FuzzPlans has plans that bytes tell: numbers, then ends of edges, weights, and how long rows are, all as signed bytes.
func FuzzPlans(f *testing.F) {
	f.Add([]byte{3, 2, 1, 1, 1, 1, 1}, []byte{0, 1, 1, 2}, []byte{1, 5}, []byte{3, 3, 3})
	f.Add([]byte{6, 3, 8, 8, 4, 8, 64}, []byte{4, 5, 0, 5, 0, 1}, []byte{5, 5, 5}, []byte{6, 6, 6, 6, 6, 6})
	f.Add([]byte{2, 1, 1, 1, 1, 1, 1}, []byte{0, 1, 0, 1}, []byte{1}, []byte{2, 2})
	f.Add([]byte{255, 128, 0}, []byte{255, 0, 0, 255, 128}, []byte{0, 6}, []byte{0, 255})
	f.Add([]byte{}, []byte{}, []byte{}, []byte{})
	f.Fuzz(func(t *testing.T, numbers, ends, weights, lengths []byte) {
		var p api.Plan
		for i, field := range []*int{&p.Nodes, &p.Lanes, &p.Room, &p.Queue, &p.Rounds, &p.Every, &p.Bag} {
			if i < len(numbers) {
				*field = int(int8(numbers[i]))
			}
		}
		for two := range slices.Chunk(ends[:min(len(ends), 80)], 2) {
			p.Edges = append(p.Edges, api.Edge{A: int(int8(two[0])), B: int(int8(two[len(two)-1]))})
		}
		for _, weight := range weights {
			p.Weights = append(p.Weights, int(int8(weight)))
		}
		for _, length := range lengths {
			p.Next = append(p.Next, make([]int, length))
		}
		hold(t, p)
	})
}
