package plan

import (
	"math"
	"slices"
	"sync"
	"testing"

	"shunter/api"
)

// nowhere are numbers that are in no bounds of a plan.
var nowhere = []int{0, -1, -2, -3, -5, -6, -8, -64, -256, 65, 66, 127, 128, 129, 192, 255, 256, 257, 258, 262, 65535, 65536, 65537, 65538, 65542, 1<<31 - 1, 1 << 31, 1 << 32, 1<<32 + 1, 1<<32 + 2, 1<<32 + 6, -1 << 31, -1<<31 + 2, -1 << 32, -1<<32 + 2, math.MaxInt, math.MaxInt - 1, math.MinInt, math.MinInt + 1, math.MinInt + 2}

// joined are edges, told by their ends.
func joined(ends ...int) []api.Edge {
	var edges []api.Edge
	for two := range slices.Chunk(ends, 2) {
		edges = append(edges, api.Edge{A: two[0], B: two[1]})
	}
	return edges
}

// allEdges are those that so many nodes can have.
func allEdges(nodes int) []api.Edge {
	var edges []api.Edge
	for a := range nodes {
		for b := a + 1; b < nodes; b++ {
			edges = append(edges, api.Edge{A: a, B: b})
		}
	}
	return edges
}

// rows are so many rows of so many numbers.
func rows(many, numbers int) [][]int {
	next := make([][]int, max(many, 0))
	for i := range next {
		next[i] = make([]int, max(numbers, 0))
	}
	return next
}

// sound is a plan of so many nodes and lanes that may be, if there may be so many.
func sound(nodes, lanes int) api.Plan {
	return api.Plan{
		Nodes: nodes, Edges: allEdges(max(0, min(nodes, 20))), Next: rows(min(nodes, 20), min(nodes, 20)),
		Lanes: lanes, Weights: slices.Repeat([]int{1}, max(0, min(lanes, 20))),
		Room: 1, Queue: 1, Rounds: 1, Every: 1, Bag: 1,
	}
}

// deepClone is a plan that shares no memory with p.
func deepClone(p api.Plan) api.Plan {
	p.Edges, p.Weights, p.Next = slices.Clone(p.Edges), slices.Clone(p.Weights), slices.Clone(p.Next)
	for i := range p.Next {
		p.Next[i] = slices.Clone(p.Next[i])
	}
	return p
}

func same(p, q api.Plan) bool {
	return p.Nodes == q.Nodes && p.Lanes == q.Lanes && p.Room == q.Room && p.Queue == q.Queue && p.Rounds == q.Rounds &&
		p.Every == q.Every && p.Bag == q.Bag && p.Start == q.Start && slices.Equal(p.Edges, q.Edges) &&
		slices.Equal(p.Weights, q.Weights) && slices.EqualFunc(p.Next, q.Next, slices.Equal[[]int])
}

func wantCheck(t *testing.T, p api.Plan, want api.Errno) {
	t.Helper()
	if got := Check(p); got != want {
		t.Fatalf("Check(%+v) = %d, want %d", p, got, want)
	}
}

func wantBeside(t *testing.T, p api.Plan, v int, want ...int) {
	t.Helper()
	if got := Beside(p, v); !slices.Equal(got, want) {
		t.Fatalf("%v: Beside(%d) = %v, want %v", p.Edges, v, got, want)
	}
}

func wantPort(t *testing.T, p api.Plan, v, w, want int) {
	t.Helper()
	if got := Port(p, v, w); got != want {
		t.Fatalf("%v: Port(%d, %d) = %d, want %d", p.Edges, v, w, got, want)
	}
}

// wantHops has the hops as their ends.
func wantHops(t *testing.T, p api.Plan, ends ...int) {
	t.Helper()
	var want []api.Hop
	for two := range slices.Chunk(ends, 2) {
		want = append(want, api.Hop{From: two[0], To: two[1]})
	}
	if got := Hops(p); !slices.Equal(got, want) {
		t.Fatalf("%d nodes, %v: Hops() = %v, want %v", p.Nodes, p.Edges, got, want)
	}
}

// TestExample is the chapter's.
func TestExample(t *testing.T) {
	p := api.Plan{Nodes: 3, Edges: joined(0, 1, 1, 2)}
	wantBeside(t, p, 1, 0, 2)
	wantPort(t, p, 1, 2, 2)
	wantHops(t, p, 0, 1, 1, 0, 1, 2, 2, 1)
}

func TestErrPlanIs120(t *testing.T) {
	if got := Check(api.Plan{}); got != 120 {
		t.Errorf("Check of no plan = %d", got)
	}
}

// TestEachNumber holds each number, while all others may be, against both its bounds.
func TestEachNumber(t *testing.T) {
	for _, c := range []struct {
		name        string
		least, most int
		set         func(p *api.Plan, n int)
	}{
		{"Nodes", 2, 6, func(p *api.Plan, n int) { *p = sound(n, 2) }},
		{"Lanes", 1, 3, func(p *api.Plan, n int) { *p = sound(4, n) }},
		{"Room", 1, 8, func(p *api.Plan, n int) { p.Room = n }},
		{"Queue", 1, 8, func(p *api.Plan, n int) { p.Queue = n }},
		{"Rounds", 1, 4, func(p *api.Plan, n int) { p.Rounds = n }},
		{"Every", 1, 8, func(p *api.Plan, n int) { p.Every = n }},
		{"Bag", 1, 64, func(p *api.Plan, n int) { p.Bag = n }},
	} {
		t.Run(c.name, func(t *testing.T) {
			set := func(n int) api.Plan {
				p := sound(4, 2)
				c.set(&p, n)
				return p
			}
			for n := -70; n <= 140; n++ {
				want := api.ErrPlan
				if c.least <= n && n <= c.most {
					want = api.OK
				}
				wantCheck(t, set(n), want)
			}
			for _, n := range nowhere {
				wantCheck(t, set(n), api.ErrPlan)
			}
		})
	}
}

// TestAllAtTheirBounds has the greatest plan, and the least one.
func TestAllAtTheirBounds(t *testing.T) {
	wantCheck(t, api.Plan{
		Nodes: 6, Edges: allEdges(6), Lanes: 3, Room: 8, Queue: 8, Rounds: 4, Every: 8, Bag: 64,
		Weights: []int{5, 5, 5}, Start: 65535, Next: rows(6, 6),
	}, api.OK)
	wantCheck(t, api.Plan{
		Nodes: 2, Lanes: 1, Room: 1, Queue: 1, Rounds: 1, Every: 1, Bag: 1,
		Weights: []int{1}, Next: rows(2, 2),
	}, api.OK)
}

func TestStartMayBeAny(t *testing.T) {
	p := sound(3, 1)
	for start := range 65536 {
		p.Start = uint16(start)
		wantCheck(t, p, api.OK)
	}
}

func TestEdges(t *testing.T) {
	for _, c := range []struct {
		name  string
		nodes int
		edges []api.Edge
		want  api.Errno
	}{
		{"none", 4, nil, api.OK},
		{"none, and no nil", 4, []api.Edge{}, api.OK},
		{"all", 4, allEdges(4), api.OK},
		{"in no order", 4, joined(2, 3, 0, 1, 1, 3, 0, 3), api.OK},
		{"one there twice", 4, joined(0, 1, 0, 1), api.ErrPlan},
		{"one there twice, others between", 4, joined(0, 1, 1, 2, 2, 3, 0, 1), api.ErrPlan},
		{"the greatest one there twice", 4, joined(2, 3, 0, 1, 2, 3), api.ErrPlan},
		{"one there three times", 4, joined(1, 2, 1, 2, 1, 2), api.ErrPlan},
		{"the other way round", 4, joined(1, 0), api.ErrPlan},
		{"both ways", 4, joined(0, 1, 1, 0), api.ErrPlan},
		{"from a node to itself", 4, joined(2, 2), api.ErrPlan},
		{"from node 0 to itself", 4, joined(0, 0), api.ErrPlan},
		{"to the node behind the last one", 4, joined(0, 4), api.ErrPlan},
		{"to the last one", 4, joined(0, 3), api.OK},
		{"of two nodes that are none", 4, joined(4, 5), api.ErrPlan},
		{"from below 0", 4, joined(-1, 0), api.ErrPlan},
		{"both below 0", 4, joined(-2, -1), api.ErrPlan},
		{"the last one is wrong", 4, joined(0, 1, 1, 2, 3, 2), api.ErrPlan},
		{"the first one is wrong", 4, joined(0, 9, 0, 1, 1, 2), api.ErrPlan},
		{"far apart", 4, joined(math.MinInt, math.MaxInt), api.ErrPlan},
		{"far apart, the other way round", 4, joined(math.MaxInt, math.MinInt), api.ErrPlan},
		{"two nodes, one edge", 2, joined(0, 1), api.OK},
		{"two nodes, an edge of three", 2, joined(1, 2), api.ErrPlan},
		{"15", 6, allEdges(6), api.OK},
		{"15, one of them twice", 6, append(allEdges(6)[:14], api.Edge{A: 0, B: 1}), api.ErrPlan},
		{"16", 6, append(allEdges(6), api.Edge{A: 4, B: 5}), api.ErrPlan},
		{"very many", 6, slices.Repeat(allEdges(6), 100000), api.ErrPlan},
		{"very many wrong ones", 6, slices.Repeat(joined(9, -9), 1000000), api.ErrPlan},
	} {
		t.Run(c.name, func(t *testing.T) {
			p := sound(c.nodes, 1)
			p.Edges = c.edges
			if got := Check(p); got != c.want {
				t.Errorf("Check = %d, want %d", got, c.want)
			}
		})
	}
}

// TestEveryEdge has each two numbers as the ends of an edge, alone and beside others.
func TestEveryEdge(t *testing.T) {
	ends := append([]int{1, 2, 3, 4, 5, 6, 7, 8}, nowhere...)
	for nodes := 2; nodes <= 6; nodes++ {
		p := sound(nodes, 1)
		for _, a := range ends {
			for _, b := range ends {
				want := api.ErrPlan
				if 0 <= a && a < b && b < nodes {
					want = api.OK
				}
				e := api.Edge{A: a, B: b}
				p.Edges = []api.Edge{e}
				wantCheck(t, p, want)
				p.Edges = []api.Edge{e, e}
				wantCheck(t, p, api.ErrPlan)
				others := slices.DeleteFunc(allEdges(nodes), func(f api.Edge) bool { return e == f })
				for at := range len(others) + 1 {
					p.Edges = slices.Insert(slices.Clone(others), at, e)
					wantCheck(t, p, want)
				}
			}
		}
	}
}

// TestEveryTwoTheSame lays each edge a second time at each place of a full list.
func TestEveryTwoTheSame(t *testing.T) {
	for nodes := 2; nodes <= 6; nodes++ {
		for i, e := range allEdges(nodes) {
			for at := range len(allEdges(nodes)) {
				p := sound(nodes, 1)
				p.Edges[at] = e
				want := api.ErrPlan
				if at == i {
					want = api.OK
				}
				wantCheck(t, p, want)
				p = sound(nodes, 1)
				p.Edges = slices.Insert(p.Edges, at, e)
				wantCheck(t, p, api.ErrPlan)
			}
		}
	}
}

func TestWeights(t *testing.T) {
	for lanes := 1; lanes <= 3; lanes++ {
		p := sound(2, lanes)
		for many := range 20 {
			want := api.ErrPlan
			if many == lanes {
				want = api.OK
			}
			p.Weights = slices.Repeat([]int{2}, many)
			wantCheck(t, p, want)
		}
		for lane := range lanes {
			p.Weights = slices.Repeat([]int{3}, lanes)
			for weight := 1; weight <= 5; weight++ {
				p.Weights[lane] = weight
				wantCheck(t, p, api.OK)
			}
			for _, weight := range append([]int{6, 7, 8, 9, 64}, nowhere...) {
				p.Weights[lane] = weight
				wantCheck(t, p, api.ErrPlan)
			}
		}
		p.Weights = nil
		wantCheck(t, p, api.ErrPlan)
	}
}

func TestNext(t *testing.T) {
	for nodes := 2; nodes <= 6; nodes++ {
		p := sound(nodes, 1)
		for many := range 12 {
			want := api.ErrPlan
			if many == nodes {
				want = api.OK
			}
			p.Next = rows(many, nodes)
			wantCheck(t, p, want)
			p.Next = rows(nodes, many)
			wantCheck(t, p, want)
			for row := range nodes {
				p.Next = rows(nodes, nodes)
				p.Next[row] = make([]int, many)
				wantCheck(t, p, want)
			}
		}
		for row := range nodes {
			p.Next = rows(nodes, nodes)
			p.Next[row] = nil
			wantCheck(t, p, api.ErrPlan)
		}
		p.Next = nil
		wantCheck(t, p, api.ErrPlan)
	}
	p := sound(2, 1)
	p.Next = [][]int{{1}, {1, 2, 3}} // as many numbers in all as there should be
	wantCheck(t, p, api.ErrPlan)
}

// TestNextMayBeAnyNumbers: whether they are ways is not asked.
func TestNextMayBeAnyNumbers(t *testing.T) {
	p := sound(3, 1)
	for row := range 3 {
		for at := range 3 {
			for _, n := range append([]int{1, 2, 3, 4, 5, 6}, nowhere...) {
				p.Next[row][at] = n
				wantCheck(t, p, api.OK)
			}
		}
	}
}

func TestBesideAndPort(t *testing.T) {
	for _, c := range []struct {
		name  string
		edges []api.Edge
		v     int
		want  []int
	}{
		{"no edges", nil, 0, nil},
		{"no edge of it", joined(0, 1, 1, 2), 3, nil},
		{"at the one end", joined(0, 1), 0, []int{1}},
		{"at the other end", joined(0, 1), 1, []int{0}},
		{"rising", joined(2, 5, 0, 2, 2, 4, 1, 2, 2, 3), 2, []int{0, 1, 3, 4, 5}},
		{"each once", joined(0, 1, 0, 1, 0, 2, 0, 1), 0, []int{1, 2}},
		{"each once, from both ends", joined(0, 1, 1, 0), 0, []int{1}},
		{"A above B", joined(3, 1), 1, []int{3}},
		{"not itself", joined(1, 1), 1, nil},
		{"not itself beside others", joined(1, 1, 2, 1, 1, 1, 0, 1), 1, []int{0, 2}},
		{"what is no node of any plan", joined(0, 9, -4, 0, 0, 6, 0, 5), 0, []int{-4, 5, 6, 9}},
		{"of one that is no node of any plan", joined(-1, 3, 4, -1, 0, 1), -1, []int{3, 4}},
		{"far apart", joined(math.MinInt, math.MaxInt, math.MaxInt, 0, math.MaxInt, -1), math.MaxInt, []int{math.MinInt, -1, 0}},
	} {
		t.Run(c.name, func(t *testing.T) {
			p := api.Plan{Nodes: 3, Edges: c.edges}
			wantBeside(t, p, c.v, c.want...)
			wantPort(t, p, c.v, c.v, -1)
			for i, w := range c.want {
				wantPort(t, p, c.v, w, i+1)
			}
			for _, w := range append([]int{1, 2, 3, 4, 5, 6, 7, 8, 9}, nowhere...) {
				if !slices.Contains(c.want, w) {
					wantPort(t, p, c.v, w, -1)
				}
			}
		})
	}
}

// TestBesideAsksForEdgesAlone: a plan that may not be is asked just as one that may.
func TestBesideAsksForEdgesAlone(t *testing.T) {
	for _, nodes := range append([]int{1, 2, 3, 4, 5, 6, 7}, nowhere...) {
		p := api.Plan{Nodes: nodes, Edges: joined(1, 2, 4, 1)}
		wantBeside(t, p, 1, 2, 4)
		wantBeside(t, p, 4, 1)
		wantPort(t, p, 1, 4, 2)
		wantPort(t, p, 2, 1, 1)
	}
}

func TestHops(t *testing.T) {
	ring := joined(0, 1, 1, 2, 0, 2)
	for _, c := range []struct {
		name  string
		nodes int
		edges []api.Edge
		want  []int
	}{
		{"no nodes", 0, ring, nil},
		{"fewer than none", -3, ring, nil},
		{"as few as can be told", math.MinInt, ring, nil},
		{"no edges", 3, nil, nil},
		{"from nodes alone", 1, ring, []int{0, 1, 0, 2}},
		{"from the first two", 2, ring, []int{0, 1, 0, 2, 1, 0, 1, 2}},
		{"from all", 3, ring, []int{0, 1, 0, 2, 1, 0, 1, 2, 2, 0, 2, 1}},
		{"by nodes, not by edges", 4, joined(2, 3, 0, 3), []int{0, 3, 2, 3, 3, 0, 3, 2}},
		{"each once", 2, joined(0, 1, 1, 0, 0, 1, 1, 1), []int{0, 1, 1, 0}},
		{"to 5, whether or not that is a node", 3, joined(0, 5, 0, 6, -1, 0), []int{0, 5}},
		{"to nothing below 0", 6, joined(-1, 5, -7, 5, 0, -1), nil},
		{"six at most, and nothing leads to more", 9, joined(4, 6, 6, 7, 5, 8, 4, 5), []int{4, 5, 5, 4}},
		{"as many as can be told", math.MaxInt, joined(4, 5, 5, 6), []int{4, 5, 5, 4}},
		{"far apart", 6, joined(0, math.MaxInt, 0, math.MinInt, 1<<32, 1, 1<<32+2, 1), nil},
	} {
		t.Run(c.name, func(t *testing.T) {
			wantHops(t, api.Plan{Nodes: c.nodes, Edges: c.edges}, c.want...)
		})
	}
}

// TestHopsOfSoundPlans: each edge has two, one each way.
func TestHopsOfSoundPlans(t *testing.T) {
	for nodes := 2; nodes <= 6; nodes++ {
		for chosen := range 1 << len(allEdges(nodes)) {
			p := sound(nodes, 1)
			p.Edges = nil
			for i, e := range allEdges(nodes) {
				if chosen>>i&1 == 1 {
					p.Edges = append(p.Edges, e)
				}
			}
			wantCheck(t, p, api.OK)
			var want []int
			for v := range nodes {
				for w := range nodes {
					if slices.Contains(p.Edges, api.Edge{A: min(v, w), B: max(v, w)}) {
						want = append(want, v, w)
					}
				}
			}
			wantHops(t, p, want...)
		}
	}
}

// TestPlansAreLeftAsTheyAre asks all of plans whose lists have something behind their length, which would be wrong there.
func TestPlansAreLeftAsTheyAre(t *testing.T) {
	whole := api.Plan{
		Nodes: 3, Edges: joined(1, 2, 0, 2, 0, 1, 1, 0, -5, 0, 2, 0), Lanes: 2, Room: 1, Queue: 1, Rounds: 1, Every: 1, Bag: 1,
		Weights: []int{5, 1, 9, -1}, Next: [][]int{{2, 1, 0, 7}, {0, 1, 2, 7}, {-1, 9, 4, 7}, nil, {1}},
	}
	before := deepClone(whole)
	p := whole
	p.Edges, p.Weights, p.Next = whole.Edges[:3], whole.Weights[:2], slices.Clone(whole.Next)[:3]
	for i, row := range p.Next {
		p.Next[i] = row[:3]
	}
	wantCheck(t, p, api.OK)
	wantHops(t, p, 0, 1, 0, 2, 1, 0, 1, 2, 2, 0, 2, 1)
	wantBeside(t, p, 0, 1, 2)
	wantPort(t, p, 0, -5, -1)
	if !same(whole, before) {
		t.Errorf("a plan is changed: %+v, it was %+v", whole, before)
	}
	p.Weights = p.Weights[:1] // what lies behind would be one more
	wantCheck(t, p, api.ErrPlan)
	p.Weights, p.Next = whole.Weights[:2], p.Next[:2]
	wantCheck(t, p, api.ErrPlan)
}

// TestMemoryIsNew writes all that was told, up to its capacity, and asks again.
func TestMemoryIsNew(t *testing.T) {
	p := sound(6, 1)
	before := deepClone(p)
	for v := range 6 {
		told, other := Beside(p, v), Beside(p, v)
		for i := range told[:cap(told)] {
			told[:cap(told)][i] = -7
		}
		wantBeside(t, p, v, other...)
	}
	hops, others := Hops(p), Hops(p)
	was := slices.Clone(others)
	clear(hops[:cap(hops)])
	if !slices.Equal(others, was) || !slices.Equal(Hops(p), was) {
		t.Error("hops share memory")
	}
	if !same(p, before) {
		t.Errorf("a plan is changed: %+v", p)
	}
	p.Edges = []api.Edge{{A: 0, B: 1}}
	told := Beside(p, 0)
	p.Edges[0] = api.Edge{A: 0, B: 2}
	if !slices.Equal(told, []int{1}) {
		t.Error("what was told is changed with the plan")
	}
	wantBeside(t, p, 0, 2)
}

// TestSideBySide asks one plan from many sides at once, which nobody may write meanwhile.
func TestSideBySide(t *testing.T) {
	p := sound(6, 3)
	slices.Reverse(p.Edges)
	var all sync.WaitGroup
	for range 8 {
		all.Go(func() {
			for range 200 {
				if Check(p) != api.OK || len(Hops(p)) != 30 || len(Beside(p, 3)) != 5 || Port(p, 5, 4) != 5 {
					t.Error("something else was told")
				}
			}
		})
	}
	all.Wait()
}
