package route

import (
	"slices"
	"testing"

	"shunter/api"
	"shunter/plan"
)

// isBeside goes through the edges themselves.
func isBeside(p api.Plan, v, w int) bool {
	return slices.Contains(p.Edges, api.Edge{A: v, B: w}) || slices.Contains(p.Edges, api.Edge{A: w, B: v})
}

// modelPath goes back from w's end: what is left to go is the path from the next one, in one node less.
func modelPath(p api.Plan, v, w, nodes int) []int {
	switch {
	case nodes == 0:
		return nil
	case v == w:
		return []int{v}
	case !isBeside(p, v, p.Next[v][w]):
		return nil
	}
	rest := modelPath(p, p.Next[v][w], w, nodes-1)
	if rest == nil {
		return nil
	}
	return append([]int{v}, rest...)
}

// modelWaits asks first what goes on from where, for each node, and sorts it by places behind that.
func modelWaits(p api.Plan) [][]int {
	hops := plan.Hops(p)
	waits := make([][]int, len(hops))
	for w := range p.Nodes {
		for from := range p.Nodes {
			to := p.Next[from][w]
			i := slices.Index(hops, api.Hop{From: from, To: to})
			if i < 0 || w == from || w == to {
				continue
			}
			if k := slices.Index(hops, api.Hop{From: to, To: p.Next[to][w]}); k >= 0 {
				waits[i] = append(waits[i], k)
			}
		}
	}
	for i := range waits {
		slices.Sort(waits[i])
		waits[i] = slices.Compact(waits[i])
	}
	return waits
}

// modelRound takes away, as long as there is one, a place that waits for none that is left: what stays goes round.
func modelRound(waits [][]int) bool {
	left := map[int]bool{}
	for i := range waits {
		left[i] = true
	}
	for {
		ended := -1
		for i := range left {
			if !slices.ContainsFunc(waits[i], func(k int) bool { return left[k] }) {
				ended = i
			}
		}
		if ended < 0 {
			return len(left) > 0
		}
		delete(left, ended)
	}
}

// Kinds of plans, by what Check says, and why.
const (
	fine = iota
	noPlan
	noPath
	round
)

// hold asks a plan all that there is to ask, and holds it against the model. It tells the plan's kind.
func hold(t *testing.T, p api.Plan) int {
	t.Helper()
	before := deepClone(p)
	if plan.Check(p) != api.OK {
		wantNothing(t, p)
		return noPlan
	}
	kind := fine
	for v := range p.Nodes {
		for w := range p.Nodes {
			path := modelPath(p, v, w, p.Nodes)
			wantPath(t, p, v, w, path...)
			if path == nil {
				kind = noPath
			}
		}
		wantPath(t, p, v, p.Nodes)
		wantPath(t, p, -1, v)
	}
	waits := modelWaits(p)
	wantWaits(t, p, waits...)
	if kind == fine && modelRound(waits) {
		kind = round
	}
	if kind == fine {
		wantCheck(t, p, api.OK)
	} else {
		wantCheck(t, p, api.ErrRoute)
	}
	if !same(p, before) {
		t.Fatalf("a plan is changed: %+v, it was %+v", p, before)
	}
	return kind
}

// TestAllWaysOfThreeNodes has each graph of three nodes, and each way: to a node, or to none.
func TestAllWaysOfThreeNodes(t *testing.T) {
	all, count := joined(0, 1, 0, 2, 1, 2), [4]int{}
	for graph := range 8 {
		var edges []api.Edge
		for i, e := range all {
			if graph>>i&1 == 1 {
				edges = append(edges, e)
			}
		}
		for digits := range 4096 {
			p := sound(edges, []int{7, 0, 0}, []int{0, 7, 0}, []int{0, 0, 7})
			for v := range 3 {
				for w := range 3 {
					if v != w {
						p.Next[v][w] = digits%4 - 1
						digits /= 4
					}
				}
			}
			count[hold(t, p)]++
		}
	}
	// A chain can have its ways alone, and there are three. In the ring, of the two ways to a node one alone may be of two hops, so that there are three times three times three; of these, two send all the same way round.
	if want := [4]int{fine: 3 + 25, round: 2, noPath: 8*4096 - 30}; count != want {
		t.Errorf("fine, no plan, no path, round: %v, want %v", count, want)
	}
}

// steps are numbers in no simple order.
type steps uint64

func (s *steps) below(n int) int {
	*s = *s*6364136223846793005 + 1442695040888963407
	return int(*s>>33) % n
}

// graph is a plan with some edges, of which each node but 0 has one to a lower one, and no ways yet.
func graph(s *steps) api.Plan {
	nodes := 2 + s.below(5)
	p := full(nodes)
	more := s.below(5)
	p.Edges = slices.DeleteFunc(p.Edges, func(api.Edge) bool { return s.below(6) >= more })
	for w := 1; w < nodes; w++ {
		e := api.Edge{A: s.below(w), B: w}
		if !slices.Contains(p.Edges, e) {
			p.Edges = append(p.Edges, e)
		}
	}
	return p
}

// lead gives a plan ways that all come: to each node by a tree that grows from it, at any node.
func lead(s *steps, p api.Plan) {
	for w := range p.Nodes {
		in := []int{w}
		for len(in) < p.Nodes {
			v, to := s.below(p.Nodes), in[s.below(len(in))]
			if !slices.Contains(in, v) && isBeside(p, v, to) {
				p.Next[v][w] = to
				in = append(in, v)
			}
		}
	}
}

// TestManyWays has ways that all come, some of which get another end.
func TestManyWays(t *testing.T) {
	s, count := steps(14), [4]int{}
	for range 8000 {
		p := graph(&s)
		lead(&s, p)
		if s.below(3) == 0 {
			p.Next[s.below(p.Nodes)][s.below(p.Nodes)] = s.below(9) - 1
		}
		count[hold(t, p)]++
	}
	if count[fine] < 500 || count[round] < 500 || count[noPath] < 500 {
		t.Errorf("too few of a kind: fine, no plan, no path, round: %v", count)
	}
}

// TestAnyWays has ways in no order at all.
func TestAnyWays(t *testing.T) {
	s := steps(15)
	for range 3000 {
		p := graph(&s)
		for _, row := range p.Next {
			for w := range row {
				row[w] = s.below(p.Nodes+2) - 1
			}
		}
		hold(t, p)
	}
}

// FuzzWays has plans that bytes tell: how many nodes, which edges, and the ways, as signed bytes.
func FuzzWays(f *testing.F) {
	f.Add(uint8(3), []byte{0, 1, 0, 2, 1, 2}, []byte{1, 1, 1, 2, 2, 2, 0, 0, 0})
	f.Add(uint8(3), []byte{0, 1, 0, 2, 1, 2}, []byte{0, 1, 2, 0, 1, 2, 0, 1, 2})
	f.Add(uint8(2), []byte{0, 1}, []byte{0, 255, 128, 1})
	f.Add(uint8(6), []byte{}, []byte{})
	f.Add(uint8(0), []byte{1, 0}, []byte{1})
	f.Fuzz(func(t *testing.T, nodes uint8, ends, ways []byte) {
		p := sound(nil, make([][]int, nodes%9)...)
		for two := range slices.Chunk(ends[:min(len(ends), 40)], 2) {
			p.Edges = append(p.Edges, api.Edge{A: int(int8(two[0])), B: int(int8(two[len(two)-1]))})
		}
		for v := range p.Next {
			p.Next[v] = make([]int, p.Nodes)
			for w := range p.Next[v] {
				if at := v*p.Nodes + w; at < len(ways) {
					p.Next[v][w] = int(int8(ways[at]))
				}
			}
		}
		hold(t, p)
	})
}
