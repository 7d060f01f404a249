package tree

import (
	"iter"
	"math"
	"slices"
	"sync"
	"testing"

	"shunter/api"
	"shunter/plan"
)

// nowhere are numbers that are no node's of any tree.
var nowhere = []int{6, 7, 8, 64, 255, 256, 257, 65535, 65536, 65537, 1<<31 - 1, 1 << 31, 1 << 32, 1<<32 + 1, math.MaxInt, -1, -2, -5, -6, -256, -1 << 31, -1 << 32, -1<<32 + 1, math.MinInt, math.MinInt + 1}

// trees are all trees of so many parents.
func trees(many int) iter.Seq[[]int] {
	return func(yield func([]int) bool) {
		if many == 0 {
			yield(nil)
			return
		}
		for smaller := range trees(many - 1) {
			for parent := range many {
				if !yield(append(slices.Clone(smaller), parent)) {
					return
				}
			}
		}
	}
}

// allTrees are those of 0 to 5 parents: 1, 1, 2, 6, 24 and 120.
func allTrees() iter.Seq[[]int] {
	return func(yield func([]int) bool) {
		for many := range 6 {
			for parents := range trees(many) {
				if !yield(parents) {
					return
				}
			}
		}
	}
}

// full is a plan whose every field has something that no tree gives.
func full() api.Plan {
	return api.Plan{
		Nodes: 77, Edges: []api.Edge{{A: 70, B: 71}, {A: 72, B: 73}}, Lanes: 2, Room: 5, Queue: 6, Rounds: 3, Every: 7, Bag: 33,
		Weights: []int{4, 2}, Start: 65533, Next: [][]int{{78, 79}, nil, {80}},
	}
}

// deepClone is a plan that shares no memory with p.
func deepClone(p api.Plan) api.Plan {
	p.Edges, p.Weights, p.Next = slices.Clone(p.Edges), slices.Clone(p.Weights), slices.Clone(p.Next)
	for i := range p.Next {
		p.Next[i] = slices.Clone(p.Next[i])
	}
	return p
}

func same(p, q api.Plan) bool {
	return p.Nodes == q.Nodes && p.Lanes == q.Lanes && p.Room == q.Room && p.Queue == q.Queue && p.Rounds == q.Rounds &&
		p.Every == q.Every && p.Bag == q.Bag && p.Start == q.Start && slices.Equal(p.Edges, q.Edges) &&
		slices.Equal(p.Weights, q.Weights) && slices.EqualFunc(p.Next, q.Next, slices.Equal[[]int])
}

func wantPath(t *testing.T, parents []int, v, w int, want ...int) {
	t.Helper()
	if got := Path(parents, v, w); !slices.Equal(got, want) {
		t.Fatalf("Path(%v, %d, %d) = %v, want %v", parents, v, w, got, want)
	}
}

func wantLay(t *testing.T, p api.Plan, parents []int, want api.Plan) {
	t.Helper()
	if got, err := Lay(p, parents); !same(got, want) || err != api.OK {
		t.Fatalf("Lay(%+v, %v) = %+v, %d, want %+v, 0", p, parents, got, err, want)
	}
}

// wantNoTree says that nothing is told of parents.
func wantNoTree(t *testing.T, parents []int) {
	t.Helper()
	short := parents[:min(len(parents), 10)]
	for v := range len(short) + 2 {
		for w := range len(short) + 2 {
			if got := Path(parents, v, w); len(got) > 0 {
				t.Fatalf("Path(%v.., %d, %d) = %v", short, v, w, got)
			}
		}
	}
	wantErrPlan(t, parents)
}

// wantErrPlan holds the plan that comes with the error to noughts, whatever is handed in.
func wantErrPlan(t *testing.T, parents []int) {
	t.Helper()
	for _, p := range []api.Plan{{}, full()} {
		got, err := Lay(p, parents)
		if err != api.ErrPlan || !same(got, api.Plan{}) {
			t.Fatalf("Lay(%+v, %v..) = %+v, %d, want nothing, 120", p, parents[:min(len(parents), 10)], got, err)
		}
	}
}

// modelPath seeks w from v over all edges, never back to where it came from: in a tree there is one way alone.
func modelPath(parents []int, from, v, w int) []int {
	if v == w {
		return []int{w}
	}
	for x := range len(parents) + 1 {
		joined := x > 0 && parents[x-1] == v || v > 0 && parents[v-1] == x
		if !joined || x == from {
			continue
		}
		if rest := modelPath(parents, v, x, w); rest != nil {
			return append([]int{v}, rest...)
		}
	}
	return nil
}

// modelLay is Lay in the chapter's words.
func modelLay(p api.Plan, parents []int) api.Plan {
	p.Nodes, p.Edges, p.Next = len(parents)+1, nil, nil
	for node := 1; node <= len(parents); node++ {
		p.Edges = append(p.Edges, api.Edge{A: parents[node-1], B: node})
	}
	for v := range p.Nodes {
		var row []int
		for w := range p.Nodes {
			if v == w {
				row = append(row, v)
			} else {
				row = append(row, modelPath(parents, -1, v, w)[1])
			}
		}
		p.Next = append(p.Next, row)
	}
	return p
}

// TestExample is the chapter's.
func TestExample(t *testing.T) {
	parents := []int{0, 0, 1}
	wantPath(t, parents, 3, 2, 3, 1, 0, 2)
	p, err := Lay(api.Plan{}, parents)
	if err != api.OK || p.Next[3][2] != 1 {
		t.Errorf("Lay = %+v, %d", p, err)
	}
}

func TestErrPlanIs120(t *testing.T) {
	if _, err := Lay(api.Plan{}, []int{1}); err != 120 {
		t.Errorf("Lay of no tree = %d", err)
	}
}

func TestPath(t *testing.T) {
	chain, star := []int{0, 1, 2, 3, 4}, []int{0, 0, 0, 0, 0}
	for _, c := range []struct {
		name    string
		parents []int
		v, w    int
		want    []int
	}{
		{"node 0 alone", nil, 0, 0, []int{0}},
		{"node 0 alone, and no nil", []int{}, 0, 0, []int{0}},
		{"from node 0 to itself", chain, 0, 0, []int{0}},
		{"from the last node to itself", chain, 5, 5, []int{5}},
		{"from a node between to itself", chain, 3, 3, []int{3}},
		{"up to the parent", []int{0}, 1, 0, []int{1, 0}},
		{"down to the child", []int{0}, 0, 1, []int{0, 1}},
		{"all the way up", chain, 5, 0, []int{5, 4, 3, 2, 1, 0}},
		{"all the way down", chain, 0, 5, []int{0, 1, 2, 3, 4, 5}},
		{"up, and not to the end", chain, 4, 2, []int{4, 3, 2}},
		{"down, and not from the end", chain, 2, 4, []int{2, 3, 4}},
		{"from leaf to leaf", star, 5, 1, []int{5, 0, 1}},
		{"to a lower leaf", star, 2, 4, []int{2, 0, 4}},
		{"not by node 0", []int{0, 1, 1, 2, 3}, 4, 5, []int{4, 2, 1, 3, 5}},
		{"up once, down twice", []int{0, 0, 1, 3}, 2, 4, []int{2, 0, 1, 3, 4}},
		{"up twice, down once", []int{0, 0, 1, 3}, 3, 2, []int{3, 1, 0, 2}},
		{"all six nodes", []int{0, 0, 1, 2, 3}, 5, 4, []int{5, 3, 1, 0, 2, 4}},
	} {
		t.Run(c.name, func(t *testing.T) { wantPath(t, c.parents, c.v, c.w, c.want...) })
	}
}

func TestLay(t *testing.T) {
	for _, c := range []struct {
		name    string
		parents []int
		edges   []api.Edge
		next    [][]int
	}{
		{"two nodes", []int{0}, []api.Edge{{A: 0, B: 1}}, [][]int{{0, 1}, {0, 1}}},
		{"a chain", []int{0, 1}, []api.Edge{{A: 0, B: 1}, {A: 1, B: 2}}, [][]int{{0, 1, 1}, {0, 1, 2}, {1, 1, 2}}},
		{"a star", []int{0, 0}, []api.Edge{{A: 0, B: 1}, {A: 0, B: 2}}, [][]int{{0, 1, 2}, {0, 1, 0}, {0, 0, 2}}},
		{"edges by nodes, not by parents", []int{0, 1, 0}, []api.Edge{{A: 0, B: 1}, {A: 1, B: 2}, {A: 0, B: 3}},
			[][]int{{0, 1, 1, 3}, {0, 1, 2, 0}, {1, 1, 2, 1}, {0, 0, 0, 3}}},
		{"six nodes", []int{0, 0, 1, 1, 2}, []api.Edge{{A: 0, B: 1}, {A: 0, B: 2}, {A: 1, B: 3}, {A: 1, B: 4}, {A: 2, B: 5}},
			[][]int{{0, 1, 2, 1, 1, 2}, {0, 1, 0, 3, 4, 0}, {0, 0, 2, 0, 0, 5}, {1, 1, 1, 3, 1, 1}, {1, 1, 1, 1, 4, 1}, {2, 2, 2, 2, 2, 5}}},
	} {
		t.Run(c.name, func(t *testing.T) {
			for _, p := range []api.Plan{{}, full()} {
				want := p
				want.Nodes, want.Edges, want.Next = len(c.parents)+1, c.edges, c.next
				wantLay(t, p, c.parents, want)
			}
		})
	}
}

// TestEveryTree holds all trees, and all two nodes of each, against the model.
func TestEveryTree(t *testing.T) {
	count := 0
	for parents := range allTrees() {
		count++
		before := slices.Clone(parents)
		for v := range len(parents) + 1 {
			for w := range len(parents) + 1 {
				wantPath(t, parents, v, w, modelPath(parents, -1, v, w)...)
			}
		}
		if len(parents) > 0 {
			wantLay(t, full(), parents, modelLay(full(), parents))
		}
		if !slices.Equal(parents, before) {
			t.Fatalf("parents are changed: %v, they were %v", parents, before)
		}
	}
	if count != 154 {
		t.Errorf("%d trees", count)
	}
}

// TestPathOfNoNodes asks for what lies at either end beside the nodes, too.
func TestPathOfNoNodes(t *testing.T) {
	for parents := range allTrees() {
		beside := []int{-1, len(parents) + 1, len(parents) + 2}
		for _, none := range append(beside, nowhere...) {
			wantPath(t, parents, none, none)
			for v := range len(parents) + 1 {
				wantPath(t, parents, none, v)
				wantPath(t, parents, v, none)
			}
		}
	}
}

// TestNoTree has each parent of each tree at its bounds, and far beyond.
func TestNoTree(t *testing.T) {
	for parents := range allTrees() {
		for i := range parents {
			wrong := slices.Clone(parents)
			for _, parent := range append([]int{i + 1, i + 2, i + 3}, nowhere...) {
				wrong[i] = parent
				wantNoTree(t, wrong)
			}
			for parent := range i + 1 {
				wrong[i] = parent
				wantPath(t, wrong, i+1, parent, i+1, parent)
			}
		}
	}
}

func TestTooManyParents(t *testing.T) {
	for _, many := range []int{6, 7, 8, 15, 16, 255, 256, 257, 261, 65536, 65541, 1000000} {
		wantNoTree(t, make([]int, many))
		wantNoTree(t, slices.Repeat([]int{-9}, many))
	}
	for parents := range trees(5) {
		for parent := range 6 {
			wantNoTree(t, append(slices.Clone(parents), parent))
		}
	}
}

// TestLayOfNoParents: node 0 alone has a path, yet is no plan.
func TestLayOfNoParents(t *testing.T) {
	wantErrPlan(t, nil)
	wantErrPlan(t, []int{})
}

// TestLaidPlansMayBe: whatever the tree, layer 12 has nothing against it, and Next leads to a node beside.
func TestLaidPlansMayBe(t *testing.T) {
	for parents := range allTrees() {
		if len(parents) == 0 {
			continue
		}
		p, err := Lay(full(), parents)
		if err != api.OK || plan.Check(p) != api.OK {
			t.Fatalf("Lay(%v) = %+v, %d: Check = %d", parents, p, err, plan.Check(p))
		}
		for v := range p.Nodes {
			for w := range p.Nodes {
				if v != w && plan.Port(p, v, p.Next[v][w]) < 1 {
					t.Fatalf("%v: Next of %d and %d = %d", parents, v, w, p.Next[v][w])
				}
			}
		}
	}
}

// TestOtherFieldsMayBeAny: what of the plan the tree does not give is not looked at.
func TestOtherFieldsMayBeAny(t *testing.T) {
	parents := []int{0, 1}
	for _, n := range append([]int{0, 1, 2, 3, 4, 5}, nowhere...) {
		wrong := api.Plan{Nodes: n, Lanes: n + 1, Room: n + 2, Queue: n + 3, Rounds: n + 4, Every: n + 5, Bag: n + 6, Weights: []int{n, n, n, n, n}, Start: uint16(n)}
		wantLay(t, wrong, parents, modelLay(wrong, parents))
	}
	for _, weights := range [][]int{nil, {}, {1}, make([]int, 1000)} {
		p := api.Plan{Weights: weights}
		wantLay(t, p, parents, modelLay(p, parents))
	}
}

// TestOnlyWhatIsInTheLength has lists with something behind their length, which would be wrong there.
func TestOnlyWhatIsInTheLength(t *testing.T) {
	whole := []int{0, 1, 1, -3, 9, 9, 9}
	wantPath(t, whole[:3], 3, 2, 3, 1, 2)
	wantPath(t, whole[:3], 4, 0)
	wantPath(t, whole[:0], 0, 0, 0)
	wantErrPlan(t, whole[:0])
	p := full()
	edges, weights, next := slices.Clone(p.Edges), []int{3, 4, 5, 6}, deepClone(p).Next
	p.Edges, p.Weights, p.Next = edges[:0], weights[:2], next[:1]
	got, err := Lay(p, whole[:3])
	if want := modelLay(p, []int{0, 1, 1}); err != api.OK || !same(got, want) {
		t.Errorf("Lay = %+v, %d, want %+v", got, err, want)
	}
	for _, behind := range got.Weights[len(got.Weights):cap(got.Weights)] {
		if behind != 0 {
			t.Errorf("what lies behind the weights is handed out: %d", behind)
		}
	}
	_ = append(got.Weights, 99)
	_ = append(got.Edges, api.Edge{A: 99, B: 99})
	if !slices.Equal(whole, []int{0, 1, 1, -3, 9, 9, 9}) || !slices.Equal(weights, []int{3, 4, 5, 6}) ||
		!slices.Equal(edges, full().Edges) || !slices.EqualFunc(next, full().Next, slices.Equal[[]int]) {
		t.Error("what was handed in is changed")
	}
}

// fill writes a list up to its capacity.
func fill[E any](list []E, with E) {
	for i := range list[:cap(list)] {
		list[:cap(list)][i] = with
	}
}

// TestPathsAreNewMemory writes all that was told, and all that was handed in.
func TestPathsAreNewMemory(t *testing.T) {
	parents := []int{0, 0, 1, 2, 3}
	told, other := Path(parents, 5, 4), Path(parents, 5, 4)
	fill(told, -7)
	want := []int{5, 3, 1, 0, 2, 4}
	if !slices.Equal(other, want) || !slices.Equal(parents, []int{0, 0, 1, 2, 3}) {
		t.Errorf("a path shares memory: %v, %v", other, parents)
	}
	fill(parents, -7)
	if !slices.Equal(other, want) {
		t.Errorf("a path is kept in what was handed in: %v", other)
	}
}

// TestPlansAreNewMemory writes each list of a laid plan, and finds all other lists as they were.
func TestPlansAreNewMemory(t *testing.T) {
	p, parents := full(), []int{0, 0, 1, 2, 3}
	want := modelLay(full(), parents)
	lists := []func(q api.Plan){
		func(q api.Plan) { fill(q.Edges, api.Edge{A: -7, B: -7}) },
		func(q api.Plan) { fill(q.Weights, -7) },
	}
	for row := range want.Next {
		lists = append(lists, func(q api.Plan) { fill(q.Next[row], -7) })
	}
	lists = append(lists, func(q api.Plan) { fill(q.Next, nil) })
	for i, write := range lists {
		told, _ := Lay(p, parents)
		other, _ := Lay(p, parents)
		write(told)
		if !same(other, want) || !same(p, full()) || !slices.Equal(parents, []int{0, 0, 1, 2, 3}) {
			t.Fatalf("list %d shares memory: %+v, %+v, %v", i, other, p, parents)
		}
		changed := deepClone(want)
		write(changed)
		if !same(told, changed) {
			t.Fatalf("list %d shares memory with another one: %+v", i, told)
		}
	}
	told, _ := Lay(p, parents)
	fill(p.Weights, -8)
	fill(p.Edges, api.Edge{A: -8, B: -8})
	fill(p.Next[0], -8)
	fill(parents, -8)
	if !same(told, want) {
		t.Errorf("a plan is kept in what was handed in: %+v", told)
	}
}

// TestAncestors ranges over the same ones twice, and breaks off at each.
func TestAncestors(t *testing.T) {
	all := ancestors([]int{0, 0, 1, 3}, 4)
	want := []int{4, 3, 1, 0}
	for range 2 {
		if got := slices.Collect(all); !slices.Equal(got, want) {
			t.Errorf("ancestors of 4 = %v", got)
		}
	}
	for _, last := range want {
		for at := range all {
			if at == last {
				break
			}
		}
	}
	if got := slices.Collect(ancestors(nil, 0)); !slices.Equal(got, []int{0}) {
		t.Errorf("ancestors of node 0 = %v", got)
	}
}

// TestSideBySide asks one tree from many sides at once, which nobody may write meanwhile.
func TestSideBySide(t *testing.T) {
	p, parents := full(), []int{0, 0, 1, 2, 3}
	want := modelLay(p, parents)
	var all sync.WaitGroup
	for range 8 {
		all.Go(func() {
			for range 200 {
				got, err := Lay(p, parents)
				if err != api.OK || !same(got, want) || len(Path(parents, 5, 4)) != 6 {
					t.Error("something else was told")
				}
			}
		})
	}
	all.Wait()
}

// FuzzTrees has parents, and two nodes, as signed bytes.
func FuzzTrees(f *testing.F) {
	f.Add([]byte{0, 0, 1}, int8(3), int8(2))
	f.Add([]byte{0, 1, 2, 3, 4}, int8(5), int8(0))
	f.Add([]byte{0, 0, 0, 0, 0, 0}, int8(1), int8(2))
	f.Add([]byte{1}, int8(0), int8(1))
	f.Add([]byte{0, 255}, int8(-1), int8(2))
	f.Add([]byte{}, int8(0), int8(0))
	f.Fuzz(func(t *testing.T, bytes []byte, v, w int8) {
		var parents []int
		isOne := len(bytes) <= 5
		for i, b := range bytes {
			parents = append(parents, int(int8(b)))
			isOne = isOne && parents[i] >= 0 && parents[i] < i+1
		}
		before := slices.Clone(parents)
		last := int8(min(len(parents), 100))
		switch {
		case !isOne:
			wantNoTree(t, parents)
			wantPath(t, parents, int(v), int(w))
		case v < 0 || w < 0 || v > last || w > last:
			wantPath(t, parents, int(v), int(w))
		default:
			wantPath(t, parents, int(v), int(w), modelPath(parents, -1, int(v), int(w))...)
		}
		if isOne && len(parents) > 0 {
			wantLay(t, full(), parents, modelLay(full(), parents))
		} else {
			wantErrPlan(t, parents)
		}
		if !slices.Equal(parents, before) {
			t.Fatalf("parents are changed: %v, they were %v", parents, before)
		}
	})
}
