package route

import (
	"math"
	"slices"
	"sync"
	"testing"

	"shunter/api"
	"shunter/plan"
	"shunter/tree"
)

// far are numbers that are no node's of any plan.
var far = []int{-1, -2, -3, -6, -256, 6, 7, 8, 64, 255, 256, 257, 65535, 65536, 65537, 1<<31 - 1, 1 << 31, 1 << 32, 1<<32 + 1, 1<<32 + 2, -1 << 31, -1 << 32, -1<<32 + 1, math.MaxInt, math.MaxInt - 1, math.MinInt, math.MinInt + 1}

// joined are edges, told by their ends.
func joined(ends ...int) []api.Edge {
	var edges []api.Edge
	for two := range slices.Chunk(ends, 2) {
		edges = append(edges, api.Edge{A: two[0], B: two[1]})
	}
	return edges
}

// sound is a plan of these edges and ways that may be.
func sound(edges []api.Edge, next ...[]int) api.Plan {
	return api.Plan{Nodes: len(next), Edges: edges, Next: next, Lanes: 1, Weights: []int{1}, Room: 1, Queue: 1, Rounds: 1, Every: 1, Bag: 1}
}

// full is one with an edge between each two nodes, and ways of one hop.
func full(nodes int) api.Plan {
	var edges []api.Edge
	next := make([][]int, nodes)
	for v := range next {
		for w := range next {
			next[v] = append(next[v], w)
			if v < w {
				edges = append(edges, api.Edge{A: v, B: w})
			}
		}
	}
	return sound(edges, next...)
}

// ring is one with an edge from each node to the next one, and from the last to the first. What is for a node at most back hops before it goes back; all else goes to the next one.
func ring(nodes, back int) api.Plan {
	var edges []api.Edge
	next := make([][]int, nodes)
	for v := range next {
		after, before := (v+1)%nodes, (v+nodes-1)%nodes
		edges = append(edges, api.Edge{A: min(v, after), B: max(v, after)})
		for w := range nodes {
			if (v-w+nodes)%nodes <= back {
				next[v] = append(next[v], before)
			} else {
				next[v] = append(next[v], after)
			}
		}
	}
	return sound(edges, next...)
}

// laid is the plan of a tree.
func laid(t *testing.T, parents ...int) api.Plan {
	t.Helper()
	p, err := tree.Lay(sound(nil), parents)
	if err != api.OK {
		t.Fatalf("no tree: %v", parents)
	}
	return p
}

// deepClone is a plan that shares no memory with p.
func deepClone(p api.Plan) api.Plan {
	p.Edges, p.Weights, p.Next = slices.Clone(p.Edges), slices.Clone(p.Weights), slices.Clone(p.Next)
	for i := range p.Next {
		p.Next[i] = slices.Clone(p.Next[i])
	}
	return p
}

func same(p, q api.Plan) bool {
	return p.Nodes == q.Nodes && p.Lanes == q.Lanes && p.Room == q.Room && p.Queue == q.Queue && p.Rounds == q.Rounds &&
		p.Every == q.Every && p.Bag == q.Bag && p.Start == q.Start && slices.Equal(p.Edges, q.Edges) &&
		slices.Equal(p.Weights, q.Weights) && sameRows(p.Next, q.Next)
}

func sameRows(a, b [][]int) bool { return slices.EqualFunc(a, b, slices.Equal[[]int]) }

func wantCheck(t *testing.T, p api.Plan, want api.Errno) {
	t.Helper()
	if got := Check(p); got != want {
		t.Fatalf("Check(%+v) = %d, want %d", p, got, want)
	}
}

func wantPath(t *testing.T, p api.Plan, v, w int, want ...int) {
	t.Helper()
	if got := Path(p, v, w); !slices.Equal(got, want) {
		t.Fatalf("Path(%+v, %d, %d) = %v, want %v", p, v, w, got, want)
	}
}

func wantWaits(t *testing.T, p api.Plan, want ...[]int) {
	t.Helper()
	if got := Waits(p); !sameRows(got, want) {
		t.Fatalf("Waits(%+v) = %v, want %v", p, got, want)
	}
}

// wantNothing says that plan.Check has something against a plan, so that nothing is told of it.
func wantNothing(t *testing.T, p api.Plan) {
	t.Helper()
	wantCheck(t, p, api.ErrPlan)
	for _, v := range []int{-1, 0, 1, 2, 5, 6} {
		for _, w := range []int{-1, 0, 1, 2, 5, 6} {
			wantPath(t, p, v, w)
		}
	}
	wantWaits(t, p)
}

// TestExample is the chapter's.
func TestExample(t *testing.T) {
	edges := joined(0, 1, 0, 2, 1, 2)
	wantCheck(t, sound(edges, []int{1, 1, 1}, []int{2, 2, 2}, []int{0, 0, 0}), api.ErrRoute)
	wantCheck(t, sound(edges, []int{0, 1, 2}, []int{0, 1, 2}, []int{0, 1, 2}), api.OK)
}

func TestErrorsAreTheirNumbers(t *testing.T) {
	if got := Check(api.Plan{}); got != 120 {
		t.Errorf("Check of no plan = %d", got)
	}
	if got := Check(ring(3, 0)); got != 140 {
		t.Errorf("Check of a ring = %d", got)
	}
}

func TestPath(t *testing.T) {
	chain := []api.Edge{{A: 0, B: 1}, {A: 1, B: 2}}
	back := sound(chain, []int{0, 1, 1}, []int{0, 1, 0}, []int{1, 1, 2})
	for _, c := range []struct {
		name string
		p    api.Plan
		v, w int
		want []int
	}{
		{"to a node beside", full(2), 0, 1, []int{0, 1}},
		{"to itself", full(2), 1, 1, []int{1}},
		{"to itself, whatever Next is of that", ring(3, 0), 1, 1, []int{1}},
		{"to itself, where nothing leads", sound(nil, []int{9, 9}, []int{9, 9}), 1, 1, []int{1}},
		{"to another one, where nothing leads", sound(nil, []int{0, 1}, []int{0, 1}), 0, 1, nil},
		{"up a chain", laid(t, 0, 1, 2, 3, 4), 0, 5, []int{0, 1, 2, 3, 4, 5}},
		{"down a chain", laid(t, 0, 1, 2, 3, 4), 5, 0, []int{5, 4, 3, 2, 1, 0}},
		{"nearly round a ring, as many nodes as there are", ring(6, 0), 0, 5, []int{0, 1, 2, 3, 4, 5}},
		{"nearly round, from between", ring(4, 0), 2, 1, []int{2, 3, 0, 1}},
		{"the other way round", ring(6, 2), 1, 5, []int{1, 0, 5}},
		{"not the shortest one", sound(joined(0, 1, 0, 2, 1, 2), []int{0, 2, 2}, []int{0, 1, 2}, []int{0, 1, 2}), 0, 1, []int{0, 2, 1}},
		{"Next is not beside", sound(chain, []int{0, 1, 2}, []int{0, 1, 2}, []int{0, 1, 2}), 0, 2, nil},
		{"Next is not beside, further on", sound(chain, []int{0, 1, 1}, []int{0, 1, -1}, []int{1, 1, 2}), 0, 2, nil},
		{"Next is the node itself", sound(chain, []int{0, 0, 1}, []int{0, 1, 2}, []int{0, 1, 2}), 0, 1, nil},
		{"Next is the node itself, further on", sound(chain, []int{0, 1, 1}, []int{0, 1, 1}, []int{0, 1, 2}), 0, 2, nil},
		{"to and fro", back, 0, 2, nil},
		{"to and fro, from the other one", back, 1, 2, nil},
		{"to and fro is what goes to others alone", back, 2, 0, []int{2, 1, 0}},
		{"round for ever", sound(joined(0, 1, 1, 2, 0, 2), []int{0, 1, 2, 1}, []int{0, 1, 2, 2}, []int{0, 1, 2, 0}, []int{0, 0, 0, 3}), 0, 3, nil},
		{"round for ever, not from where it begins", sound(joined(0, 1, 1, 2, 2, 3), []int{0, 1, 1, 1, 1}, []int{0, 1, 2, 2, 2}, []int{1, 1, 2, 3, 3}, []int{2, 2, 2, 3, 2}, []int{0, 0, 0, 0, 4}), 0, 4, nil},
	} {
		t.Run(c.name, func(t *testing.T) { wantPath(t, c.p, c.v, c.w, c.want...) })
	}
}

// TestPathOfNoNodes asks at both ends, beside the nodes and far off.
func TestPathOfNoNodes(t *testing.T) {
	for nodes := 2; nodes <= 6; nodes++ {
		p := full(nodes)
		for _, none := range append([]int{nodes, nodes + 1}, far...) {
			wantPath(t, p, none, none)
			for v := range nodes {
				wantPath(t, p, none, v)
				wantPath(t, p, v, none)
			}
		}
	}
}

func TestWaits(t *testing.T) {
	for _, c := range []struct {
		name string
		p    api.Plan
		want [][]int
	}{
		{"two nodes", full(2), [][]int{nil, nil}},
		{"no edges", sound(nil, []int{0, 1}, []int{0, 1}), nil},
		// 0-1, 1-0, 1-2, 2-1
		{"a chain", laid(t, 0, 1), [][]int{{2}, nil, nil, {1}}},
		// 0-1, 0-2, 0-3, 1-0, 2-0, 3-0: each of the last three may wait for two of the first
		{"a star", laid(t, 0, 0, 0), [][]int{nil, nil, nil, {1, 2}, {0, 2}, {0, 1}}},
		// 0-1, 0-2, 1-0, 1-2, 2-0, 2-1
		{"ways of one hop", full(3), slices.Repeat([][]int{nil}, 6)},
		{"round", ring(3, 0), [][]int{{3}, nil, nil, {4}, {0}, nil}},
		{"round, the other way", ring(3, 2), [][]int{nil, {5}, {1}, nil, nil, {2}}},
		{"one way of two hops alone", sound(joined(0, 1, 0, 2, 1, 2), []int{0, 1, 1}, []int{0, 1, 2}, []int{0, 1, 2}), [][]int{{3}, nil, nil, nil, nil, nil}},
		// 0-1, 1-0, 1-2, 1-3, 2-1, 3-1
		{"a hop that leads to two nodes is there once", sound(joined(0, 1, 1, 2, 2, 3), []int{0, 1, 1, 1}, []int{0, 1, 2, 2}, []int{1, 1, 2, 3}, []int{2, 2, 2, 3}),
			[][]int{{2}, nil, {4}, {1}, nil, {3}}},
		{"back to where it came from", sound(joined(0, 1, 1, 2), []int{0, 1, 1}, []int{0, 1, 0}, []int{1, 1, 2}), [][]int{{1}, {0}, nil, {1}}},
		{"what never comes", sound(joined(0, 1, 1, 2), []int{0, 1, 1, 1}, []int{0, 1, 2, 2}, []int{1, 1, 2, -7}, []int{0, 0, 0, 3}), [][]int{{2}, nil, nil, {1}}},
		{"Next of the first one leads nowhere", sound(joined(0, 1, 1, 2), []int{0, 1, 2}, []int{0, 1, 2}, []int{1, 1, 2}), [][]int{nil, nil, nil, {1}}},
		{"Next of the second one leads nowhere", sound(joined(0, 1, 1, 2), []int{0, 1, 1}, []int{0, 1, 1}, []int{1, 1, 2}), [][]int{nil, nil, nil, {1}}},
		{"what is for From, or for To, waits for nothing", sound(joined(0, 1, 0, 2, 1, 2), []int{1, 1, 2}, []int{0, 2, 2}, []int{0, 1, 2}), slices.Repeat([][]int{nil}, 6)},
	} {
		t.Run(c.name, func(t *testing.T) { wantWaits(t, c.p, c.want...) })
	}
}

func TestCheck(t *testing.T) {
	for _, c := range []struct {
		name string
		p    api.Plan
		want api.Errno
	}{
		{"two nodes", full(2), api.OK},
		{"no edges", sound(nil, []int{0, 1}, []int{0, 1}), api.ErrRoute},
		{"a chain", laid(t, 0, 1, 2, 3, 4), api.OK},
		{"one way leads to the node itself", sound(joined(0, 1), []int{0, 0}, []int{0, 1}), api.ErrRoute},
		{"the other one does", sound(joined(0, 1), []int{0, 1}, []int{1, 1}), api.ErrRoute},
		{"one node is beside none", sound(joined(0, 1), []int{0, 1, 1}, []int{0, 1, 0}, []int{0, 1, 2}), api.ErrRoute},
		{"one way goes to and fro", sound(joined(0, 1, 1, 2), []int{0, 1, 1}, []int{0, 1, 0}, []int{1, 1, 2}), api.ErrRoute},
		{"a ring of four, by the shortest ways, of which all of two hops go one way", ring(4, 1), api.ErrRoute},
		{"a ring of four, of which they turn", sound(joined(0, 1, 1, 2, 2, 3, 0, 3), []int{0, 1, 1, 3}, []int{0, 1, 2, 0}, []int{1, 1, 2, 3}, []int{0, 0, 2, 3}), api.OK},
		{"a ring of five, by the shortest ways", ring(5, 2), api.ErrRoute},
		{"a ring with a tail ahead of it", sound(joined(0, 1, 1, 2, 2, 3, 1, 3), []int{0, 1, 1, 1}, []int{0, 1, 2, 2}, []int{3, 3, 2, 3}, []int{1, 1, 1, 3}), api.ErrRoute},
		{"a ring of six, by the shortest ways, some of three hops this way, some that", sound(joined(0, 1, 1, 2, 2, 3, 3, 4, 4, 5, 0, 5),
			[]int{0, 1, 1, 1, 5, 5}, []int{0, 1, 2, 2, 0, 0}, []int{1, 1, 2, 3, 3, 3}, []int{2, 2, 2, 3, 4, 4}, []int{5, 5, 3, 3, 4, 5}, []int{0, 0, 0, 4, 4, 5}), api.ErrRoute},
		{"a ring of six, of which one edge takes what is for its ends alone", sound(joined(0, 1, 1, 2, 2, 3, 3, 4, 4, 5, 0, 5),
			[]int{0, 1, 1, 1, 1, 5}, []int{0, 1, 2, 2, 2, 2}, []int{1, 1, 2, 3, 3, 3}, []int{2, 2, 2, 3, 4, 4}, []int{3, 3, 3, 3, 4, 5}, []int{0, 4, 4, 4, 4, 5}), api.OK},
	} {
		t.Run(c.name, func(t *testing.T) { wantCheck(t, c.p, c.want) })
	}
}

// TestRings: whatever goes back, all comes; but in one that is left no turn, Waits go round.
func TestRings(t *testing.T) {
	for nodes := 3; nodes <= 6; nodes++ {
		for back := range nodes {
			p := ring(nodes, back)
			for v := range nodes {
				for w := range nodes {
					if got := Path(p, v, w); len(got) == 0 || got[0] != v || got[len(got)-1] != w {
						t.Fatalf("%d nodes, %d back: Path(%d, %d) = %v", nodes, back, v, w, got)
					}
				}
			}
			want := api.OK
			if back > 1 || nodes-1-back > 1 {
				want = api.ErrRoute
			}
			wantCheck(t, p, want)
		}
	}
}

// TestTrees has all trees: their ways never go round, and are the tree's.
func TestTrees(t *testing.T) {
	count := 0
	var hold func(parents []int)
	hold = func(parents []int) {
		if len(parents) > 0 {
			count++
			p := laid(t, parents...)
			wantCheck(t, p, api.OK)
			for v := range p.Nodes {
				for w := range p.Nodes {
					wantPath(t, p, v, w, tree.Path(parents, v, w)...)
				}
			}
		}
		for parent := range len(parents) + 1 {
			if len(parents) < 5 {
				hold(append(slices.Clone(parents), parent))
			}
		}
	}
	hold(nil)
	if count != 153 {
		t.Errorf("%d trees", count)
	}
}

// TestErrPlanGoesAheadOfErrRoute has plans whose ways may not be either, or may.
func TestErrPlanGoesAheadOfErrRoute(t *testing.T) {
	for _, change := range []func(p *api.Plan){
		func(p *api.Plan) { p.Nodes = 1 },
		func(p *api.Plan) { p.Nodes = 7 },
		func(p *api.Plan) { p.Nodes = math.MaxInt },
		func(p *api.Plan) { p.Nodes = math.MinInt },
		func(p *api.Plan) { p.Nodes++ },
		func(p *api.Plan) { p.Nodes-- },
		func(p *api.Plan) { p.Edges = append(p.Edges, p.Edges[0]) },
		func(p *api.Plan) { p.Edges[0].B, p.Edges[0].A = p.Edges[0].A, p.Edges[0].B },
		func(p *api.Plan) { p.Edges[0].B = 9 },
		func(p *api.Plan) { p.Edges[0].A = -1 },
		func(p *api.Plan) { p.Lanes = 0 },
		func(p *api.Plan) { p.Room = 9 },
		func(p *api.Plan) { p.Queue = 0 },
		func(p *api.Plan) { p.Rounds = 5 },
		func(p *api.Plan) { p.Every = 0 },
		func(p *api.Plan) { p.Bag = 65 },
		func(p *api.Plan) { p.Weights[0] = 6 },
		func(p *api.Plan) { p.Weights = nil },
		func(p *api.Plan) { p.Next = nil },
		func(p *api.Plan) { p.Next = p.Next[1:] },
		func(p *api.Plan) { p.Next[0] = nil },
		func(p *api.Plan) { p.Next[1] = append(p.Next[1], 0) },
	} {
		for _, p := range []api.Plan{full(3), ring(3, 0), sound(joined(0, 1), []int{7, -7, 0}, []int{8, 8, 8}, []int{9, 9, 9})} {
			change(&p)
			wantNothing(t, p)
		}
	}
	wantNothing(t, api.Plan{})
}

// TestFarNumbersInNext: to wherever a way leads, that is not beside, nothing comes there; at a node of itself it does no harm.
func TestFarNumbersInNext(t *testing.T) {
	for nodes := 2; nodes <= 6; nodes++ {
		for v := range nodes {
			for w := range nodes {
				for _, none := range append([]int{nodes, v}, far...) {
					p := full(nodes)
					p.Next[v][w] = none
					if v == w {
						wantCheck(t, p, api.OK)
						wantPath(t, p, v, w, v)
					} else {
						wantCheck(t, p, api.ErrRoute)
						wantPath(t, p, v, w)
					}
					wantWaits(t, p, slices.Repeat([][]int{nil}, nodes*(nodes-1))...)
				}
			}
		}
	}
}

// TestOtherFieldsDoNotMatter: lanes, room and what else may be is nothing to the ways.
func TestOtherFieldsDoNotMatter(t *testing.T) {
	for _, p := range []api.Plan{full(4), ring(4, 0), laid(t, 0, 0, 1)} {
		check, waits := Check(p), Waits(p)
		q := deepClone(p)
		q.Lanes, q.Weights, q.Room, q.Queue, q.Rounds, q.Every, q.Bag, q.Start = 3, []int{5, 4, 3}, 8, 7, 4, 6, 64, 65535
		slices.Reverse(q.Edges)
		wantCheck(t, q, check)
		wantWaits(t, q, waits...)
		for v := range p.Nodes {
			for w := range p.Nodes {
				wantPath(t, q, v, w, Path(p, v, w)...)
			}
		}
	}
}

// TestOnlyWhatIsInTheLength has lists with something behind their length, which would be wrong there.
func TestOnlyWhatIsInTheLength(t *testing.T) {
	p := laid(t, 0, 1)
	edges := append(joined(0, 1, 1, 2), joined(0, 2, 0, 1)...)
	next := [][]int{{0, 1, 1, 9}, {0, 1, 2, 9}, {1, 1, 2, 9}, {9}}
	rows := make([][]int, 4)
	for i := range rows {
		rows[i] = next[i][:min(3, len(next[i]))]
	}
	p.Edges, p.Next, p.Weights = edges[:2], rows[:3], []int{1, 77}[:1]
	wantCheck(t, p, api.OK)
	wantPath(t, p, 0, 2, 0, 1, 2)
	wantPath(t, p, 0, 3)
	wantWaits(t, p, []int{2}, nil, nil, []int{1})
	if !slices.Equal(edges, joined(0, 1, 1, 2, 0, 2, 0, 1)) || !sameRows(next, [][]int{{0, 1, 1, 9}, {0, 1, 2, 9}, {1, 1, 2, 9}, {9}}) {
		t.Error("what was handed in is changed")
	}
	for _, row := range append(Waits(p), Path(p, 0, 2)) {
		for _, behind := range row[len(row):cap(row)] {
			if behind != 0 {
				t.Errorf("what lies behind a list is handed out: %d", behind)
			}
		}
	}
}

// fill writes a list up to its capacity.
func fill(list []int) {
	for i := range list[:cap(list)] {
		list[:cap(list)][i] = -7
	}
}

// TestMemoryIsNew writes each list that was told, and all that was handed in.
func TestMemoryIsNew(t *testing.T) {
	p := laid(t, 0, 0, 1, 1, 2)
	before, want, path := deepClone(p), Waits(p), Path(p, 3, 5)
	for i := range want {
		told, other := Waits(p), Waits(p)
		fill(told[i])
		wantChanged := slices.Clone(want)
		wantChanged[i] = slices.Repeat([]int{-7}, len(want[i]))
		if !sameRows(told, wantChanged) || !sameRows(other, want) || !same(p, before) {
			t.Fatalf("list %d shares memory: %v, %v, %+v", i, told, other, p)
		}
	}
	told, other := Waits(p), Waits(p)
	clear(told)
	longer, second := Path(p, 3, 5), Path(p, 3, 5)
	fill(longer)
	if !sameRows(other, want) || !slices.Equal(second, path) || !same(p, before) {
		t.Errorf("memory is shared: %v, %v, %+v", other, second, p)
	}
	for _, row := range p.Next {
		fill(row)
	}
	if !slices.Equal(second, path) || !sameRows(other, want) {
		t.Errorf("what was handed in is kept: %v, %v", second, other)
	}
}

// TestSideBySide asks plans from many sides at once, which nobody may write meanwhile.
func TestSideBySide(t *testing.T) {
	good, round := laid(t, 0, 0, 1, 1, 2), ring(6, 0)
	waits := Waits(good)
	var all sync.WaitGroup
	for range 8 {
		all.Go(func() {
			for range 100 {
				if Check(good) != api.OK || Check(round) != api.ErrRoute || !sameRows(Waits(good), waits) || len(Path(round, 0, 5)) != 6 {
					t.Error("something else was told")
				}
			}
		})
	}
	all.Wait()
}

// TestGoRound has waits that no plan need have: the places are those of plan.Hops alone.
func TestGoRound(t *testing.T) {
	deep := make([][]int, 30)
	for i := range 29 {
		deep[i] = []int{i + 1}
	}
	ended := slices.Clone(deep)
	ended[29] = []int{0}
	many := make([][]int, 60) // who looked at a place again, from each one that waits for it, would not end
	for i := range many {
		for k := i + 1; k < len(many); k++ {
			many[i] = append(many[i], k)
		}
	}
	for _, c := range []struct {
		name  string
		waits [][]int
		want  bool
	}{
		{"none", nil, false},
		{"one, that waits for none", [][]int{nil}, false},
		{"for itself", [][]int{{0}}, true},
		{"the last one for itself", [][]int{{1}, nil, {2}}, true},
		{"one for the other", [][]int{{1}, {0}}, true},
		{"two ways to one place", [][]int{{1, 2}, {3}, {3}, nil}, false},
		{"a place that was seen, from another one", [][]int{nil, {0}, {0, 1}}, false},
		{"a circle behind a place from which there is none", [][]int{{1, 2}, nil, {3}, {2}}, true},
		{"a circle that is not led to", [][]int{{1}, nil, {3}, {4}, {2}}, true},
		{"thirty in a row", deep, false},
		{"thirty in a circle", ended, true},
		{"each for all behind it", many, false},
	} {
		t.Run(c.name, func(t *testing.T) {
			if got := goRound(c.waits); got != c.want {
				t.Errorf("goRound(%v) = %v", c.waits, got)
			}
		})
	}
}

// TestMostHops: six nodes have thirty hops, in plan.Hops' order.
func TestMostHops(t *testing.T) {
	p := full(6)
	if waits := Waits(p); len(waits) != 30 || len(waits) != len(plan.Hops(p)) {
		t.Errorf("%d places", len(waits))
	}
	wantCheck(t, p, api.OK)
}
