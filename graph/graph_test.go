package graph_test

import (
	"math/rand/v2"
	"slices"
	"testing"

	"coupe/api"
	"coupe/graph"
)

const (
	least   = -1 << 63
	most    = 1<<63 - 1
	maxCost = 1000000000
	no      = -1 // stands for a cost or a node that there is not
)

// example is the graph of the chapter.
var example = api.Graph{Nodes: 4, Arcs: []api.Arc{{From: 0, To: 1, Cost: 4}, {From: 0, To: 2, Cost: 1}, {From: 2, To: 1, Cost: 3}, {From: 1, To: 3, Cost: 0}, {From: 2, To: 3, Cost: 3}}}

// of makes a graph of arcs that are written as their three numbers.
func of(nodes int, arcs ...[3]int) api.Graph {
	g := api.Graph{Nodes: nodes}
	for _, a := range arcs {
		g.Arcs = append(g.Arcs, api.Arc{From: a[0], To: a[1], Cost: a[2]})
	}
	return g
}

// row is a graph with an arc from each node to the next one.
func row(nodes, cost int) api.Graph {
	g := api.Graph{Nodes: nodes}
	for v := range nodes - 1 {
		g.Arcs = append(g.Arcs, api.Arc{From: v, To: v + 1, Cost: cost})
	}
	return g
}

// many has so many equal arcs.
func many(nodes, arcs int) api.Graph {
	return api.Graph{Nodes: nodes, Arcs: make([]api.Arc, arcs)}
}

// random makes a graph; with a low greatest cost many ways cost the same.
func random(r *rand.Rand, nodes, arcs, greatest int) api.Graph {
	g := api.Graph{Nodes: nodes}
	for range arcs {
		g.Arcs = append(g.Arcs, api.Arc{From: r.IntN(nodes), To: r.IntN(nodes), Cost: r.IntN(greatest + 1)})
	}
	return g
}

// samples are small graphs of many shapes, and some that are as large as they may be.
func samples(seed uint64) []api.Graph {
	r := rand.New(rand.NewPCG(5, seed))
	l := []api.Graph{example, {Nodes: 1}, {Nodes: 3}, of(1, [3]int{0, 0, 0}), row(api.MaxNodes, maxCost), row(api.MaxNodes, 0)}
	for range 600 {
		l = append(l, random(r, 1+r.IntN(6), r.IntN(12), []int{0, 1, 2, 5, maxCost}[r.IntN(5)]))
	}
	for _, greatest := range []int{0, 1, 3, 100, maxCost} {
		l = append(l, random(r, api.MaxNodes, api.MaxArcs, greatest), random(r, api.MaxNodes, 80, greatest))
	}
	return l
}

// invalidCase is a graph that is not valid, with its error.
type invalidCase struct {
	name string
	g    api.Graph
	e    int
}

func invalid() []invalidCase {
	tooMany := many(2, api.MaxArcs+1)
	tooMany.Arcs[0] = api.Arc{From: 5}
	negative := many(-1, api.MaxArcs+1)
	return []invalidCase{
		{"no graph has nodes below 0", api.Graph{Nodes: -1}, api.ErrRange},
		{"too many nodes", api.Graph{Nodes: api.MaxNodes + 1}, api.ErrRange},
		{"the least int", api.Graph{Nodes: least}, api.ErrRange},
		{"the greatest int", api.Graph{Nodes: most}, api.ErrRange},
		{"nodes before arcs", negative, api.ErrRange},
		{"too many arcs", many(1, api.MaxArcs+1), api.ErrLimit},
		{"their number before each of them", tooMany, api.ErrLimit},
		{"an arc without nodes", of(0, [3]int{0, 0, 0}), api.ErrRange},
		{"from below 0", of(2, [3]int{0, 1, 1}, [3]int{-1, 1, 1}), api.ErrRange},
		{"from behind", of(2, [3]int{2, 1, 1}), api.ErrRange},
		{"to below 0", of(2, [3]int{1, -1, 1}), api.ErrRange},
		{"to behind", of(2, [3]int{1, 2, 1}), api.ErrRange},
		{"huge ends", of(2, [3]int{least, most, 1}), api.ErrRange},
		{"cost below 0", of(2, [3]int{0, 1, -1}), api.ErrRange},
		{"cost above the limit", of(2, [3]int{0, 1, maxCost + 1}), api.ErrRange},
		{"the least cost", of(2, [3]int{0, 1, least}), api.ErrRange},
		{"the greatest cost", of(2, [3]int{0, 1, most}), api.ErrRange},
		{"the last arc", of(3, [3]int{0, 1, 0}, [3]int{1, 2, maxCost}, [3]int{2, 3, 0}), api.ErrRange},
	}
}

// exact returns the least costs of ways with exactly so many arcs, for 0 arcs up to one for each node.
func exact(g api.Graph, from int) [][]int {
	costs := [][]int{slices.Repeat([]int{no}, g.Nodes)}
	costs[0][from] = 0
	for k := range g.Nodes {
		next := slices.Repeat([]int{no}, g.Nodes)
		for _, a := range g.Arcs {
			if costs[k][a.From] == no {
				continue
			}
			if c := costs[k][a.From] + a.Cost; next[a.To] == no || c < next[a.To] {
				next[a.To] = c
			}
		}
		costs = append(costs, next)
	}
	return costs
}

// wantDistances follows the definition of best ways and predecessors.
func wantDistances(g api.Graph, from int) ([]int, []int) {
	costs := exact(g, from)
	cost, before := slices.Repeat([]int{no}, g.Nodes), slices.Repeat([]int{no}, g.Nodes)
	for v := range g.Nodes {
		fewest := 0
		for k := range costs {
			if c := costs[k][v]; c != no && (cost[v] == no || c < cost[v]) {
				cost[v], fewest = c, k
			}
		}
		for _, a := range g.Arcs {
			if a.To != v || fewest == 0 || costs[fewest-1][a.From] == no || costs[fewest-1][a.From]+a.Cost != cost[v] {
				continue
			}
			if before[v] == no || a.From < before[v] {
				before[v] = a.From
			}
		}
	}
	return cost, before
}

// TestP1_AnyArguments calls all functions with arguments of any form: none panics, and beside an error there is nothing else.
func TestP1_AnyArguments(t *testing.T) {
	nums := []int{least, least + 1, -2, -1, 0, 1, 2, 3, 63, 64, 65, 256, 257, most}
	graphs := append(samples(1)[:20], api.Graph{})
	for _, x := range invalid() {
		graphs = append(graphs, x.g)
	}
	beside := func(name string, something bool, e int) {
		t.Helper()
		if something && e != api.OK {
			t.Error(name, "has a result beside the error", e)
		}
	}
	for _, g := range graphs {
		graph.Check(g)
		arcs, cost, e := graph.Tree(g)
		beside("Tree", arcs != nil || cost != 0, e)
		list, e := graph.Order(g)
		beside("Order", list != nil, e)
		for _, a := range nums {
			costs, before, e := graph.Distances(g, a)
			beside("Distances", costs != nil || before != nil, e)
			reached, e := graph.Reach(g, []int{0, a})
			beside("Reach", reached != nil, e)
			for _, b := range nums {
				nodes, cost, e := graph.Path(g, a, b)
				beside("Path", nodes != nil || cost != 0, e)
				costs, before := slices.Repeat([]int{a}, max(0, min(g.Nodes, 70))), slices.Repeat([]int{b}, max(0, min(g.Nodes, 70)))
				graph.Verify(g, 0, costs, before)
				if len(costs) > 0 {
					costs[0], before[0] = 0, no
				}
				graph.Verify(g, 0, costs, before)
			}
		}
	}
	for _, n := range nums {
		for _, a := range nums {
			lowest, e := graph.Components(n, [][2]int{{0, 0}, {a, 0}, {0, a}, {a, n}})
			beside("Components", lowest != nil, e)
		}
	}
}

func TestP1_ArgumentsAreKept(t *testing.T) {
	g := of(5, [3]int{3, 2, 7}, [3]int{0, 3, 5}, [3]int{0, 2, 1}, [3]int{2, 1, 2}, [3]int{1, 4, 2})
	arcs := slices.Grow(slices.Clone(g.Arcs), 8)
	spare := arcs[:cap(arcs)]
	spare[len(arcs)] = api.Arc{From: 9, To: 9, Cost: 9}
	kept := slices.Clone(spare)
	same := api.Graph{Nodes: g.Nodes, Arcs: arcs}
	start := make([]int, 2, 6)
	pairs := make([][2]int, 3, 6)
	pairs[0] = [2]int{4, 2}
	for range 2 {
		cost, before, _ := graph.Distances(same, 0)
		keptCost, keptBefore := slices.Clone(cost), slices.Clone(before)
		if e := graph.Verify(same, 0, cost, before); e != api.OK || !slices.Equal(cost, keptCost) || !slices.Equal(before, keptBefore) {
			t.Error(e, cost, before)
		}
		nodes, _, _ := graph.Path(same, 0, 4)
		reached, _ := graph.Reach(same, start)
		tree, _, _ := graph.Tree(same)
		list, _ := graph.Order(same)
		lowest, _ := graph.Components(5, pairs)
		if !slices.Equal(cost, []int{0, 3, 1, 5, 5}) || !slices.Equal(nodes, []int{0, 2, 1, 4}) || !slices.Equal(tree, []int{1, 2, 3, 4}) || !slices.Equal(list, []int{0, 3, 2, 1, 4}) || !slices.Equal(lowest, []int{0, 1, 2, 3, 2}) {
			t.Error(cost, nodes, tree, list, lowest)
		}
		// Results are the caller's: what is done with them does not show in later ones.
		clear(cost)
		clear(before)
		clear(nodes)
		clear(reached)
		clear(tree)
		clear(list)
		clear(lowest)
	}
	if !slices.Equal(spare, kept) || !slices.Equal(start[:6], make([]int, 6)) || pairs[0] != [2]int{4, 2} || !slices.Equal(pairs[1:6], make([][2]int, 5)) {
		t.Error("arguments were changed")
	}
}

func TestP5_1_Check(t *testing.T) {
	for _, x := range invalid() {
		if e := graph.Check(x.g); e != x.e {
			t.Error(x.name, e)
		}
	}
	full := many(api.MaxNodes, api.MaxArcs)
	full.Arcs[api.MaxArcs-1] = api.Arc{From: api.MaxNodes - 1, To: api.MaxNodes - 1, Cost: maxCost}
	for i, g := range []api.Graph{{}, {Nodes: api.MaxNodes}, example, full, of(1, [3]int{0, 0, 0}, [3]int{0, 0, maxCost})} {
		if e := graph.Check(g); e != api.OK {
			t.Error(i, e)
		}
	}
}

// TestP5_1_First finds that each function returns the error of Check before others.
func TestP5_1_First(t *testing.T) {
	for _, x := range invalid() {
		_, _, distances := graph.Distances(x.g, -1)
		_, _, path := graph.Path(x.g, -1, -1)
		verify := graph.Verify(x.g, -1, nil, []int{1})
		_, reach := graph.Reach(x.g, []int{-1})
		_, _, tree := graph.Tree(x.g)
		_, order := graph.Order(x.g)
		for i, e := range []int{distances, path, verify, reach, tree, order} {
			if e != x.e {
				t.Error(x.name, i, e)
			}
		}
	}
}

func TestP5_2_Examples(t *testing.T) {
	cost, before, e := graph.Distances(example, 0)
	if !slices.Equal(cost, []int{0, 4, 1, 4}) || !slices.Equal(before, []int{no, 0, 0, 1}) || e != api.OK {
		t.Error(cost, before, e)
	}
	cost, before, e = graph.Distances(example, 3)
	if !slices.Equal(cost, []int{no, no, no, 0}) || !slices.Equal(before, []int{no, no, no, no}) || e != api.OK {
		t.Error(cost, before, e)
	}
	for _, x := range []struct {
		g        api.Graph
		from, to int
		nodes    []int
		cost, e  int
	}{
		{example, 0, 3, []int{0, 1, 3}, 4, api.OK},
		{example, 0, 1, []int{0, 1}, 4, api.OK},
		{example, 2, 1, []int{2, 1}, 3, api.OK},
		{example, 2, 2, []int{2}, 0, api.OK},
		{example, 3, 3, []int{3}, 0, api.OK},
		{example, 3, 0, nil, 0, api.ErrNone},
		{example, 1, 2, nil, 0, api.ErrNone},
		// A ring from the start costs nothing, but the empty way has fewer arcs.
		{of(2, [3]int{0, 0, 0}, [3]int{0, 1, 0}, [3]int{1, 0, 0}), 0, 0, []int{0}, 0, api.OK},
		{of(2, [3]int{0, 0, 0}, [3]int{0, 1, 0}, [3]int{1, 0, 0}), 1, 0, []int{1, 0}, 0, api.OK},
		// Of several arcs between two nodes the cheapest one counts.
		{of(2, [3]int{0, 1, 5}, [3]int{0, 1, 2}, [3]int{0, 1, 7}), 0, 1, []int{0, 1}, 2, api.OK},
		// The least cost comes first, and then the fewest arcs.
		{of(4, [3]int{0, 3, 4}, [3]int{0, 1, 1}, [3]int{1, 2, 1}, [3]int{2, 3, 1}), 0, 3, []int{0, 1, 2, 3}, 3, api.OK},
		{of(4, [3]int{0, 3, 3}, [3]int{0, 1, 1}, [3]int{1, 2, 1}, [3]int{2, 3, 1}), 0, 3, []int{0, 3}, 3, api.OK},
		// Of the last arcs the one from the lowest node counts, not the one that is found first.
		{of(5, [3]int{0, 2, 1}, [3]int{0, 1, 1}, [3]int{2, 4, 1}, [3]int{1, 4, 1}), 0, 4, []int{0, 1, 4}, 2, api.OK},
		{of(5, [3]int{0, 3, 1}, [3]int{0, 4, 1}, [3]int{3, 2, 2}, [3]int{4, 1, 2}, [3]int{1, 2, 0}), 0, 2, []int{0, 3, 2}, 3, api.OK},
		{row(api.MaxNodes, maxCost), 0, 2, []int{0, 1, 2}, 2 * maxCost, api.OK},
	} {
		if nodes, cost, e := graph.Path(x.g, x.from, x.to); !slices.Equal(nodes, x.nodes) || cost != x.cost || e != x.e {
			t.Error(x.g, x.from, x.to, nodes, cost, e)
		}
	}
	if _, cost, e := graph.Path(row(api.MaxNodes, maxCost), 0, api.MaxNodes-1); cost != 63*maxCost || e != api.OK {
		t.Error("the most expensive way", cost, e)
	}
}

func TestP5_2_Errors(t *testing.T) {
	for _, v := range []int{least, -1, 4, 64, most} {
		if cost, before, e := graph.Distances(example, v); cost != nil || before != nil || e != api.ErrRange {
			t.Error(v, cost, before, e)
		}
		for _, ends := range [][2]int{{v, 0}, {0, v}, {3, v}, {v, v}} {
			if nodes, cost, e := graph.Path(example, ends[0], ends[1]); nodes != nil || cost != 0 || e != api.ErrRange {
				t.Error(ends, nodes, cost, e)
			}
		}
	}
	if _, _, e := graph.Distances(api.Graph{}, 0); e != api.ErrRange {
		t.Error("a graph without a node", e)
	}
}

func TestP5_2_Distances(t *testing.T) {
	for _, g := range samples(2) {
		for from := range min(g.Nodes, 8) {
			cost, before, e := graph.Distances(g, from)
			wantCost, wantBefore := wantDistances(g, from)
			if !slices.Equal(cost, wantCost) || !slices.Equal(before, wantBefore) || e != api.OK {
				t.Fatal(g, from, cost, before, e, wantCost, wantBefore)
			}
		}
	}
}

func TestP5_2_Path(t *testing.T) {
	for _, g := range samples(3) {
		for from := range min(g.Nodes, 5) {
			cost, before := wantDistances(g, from)
			for to := range g.Nodes {
				nodes, c, e := graph.Path(g, from, to)
				if cost[to] == no {
					if nodes != nil || c != 0 || e != api.ErrNone {
						t.Fatal(g, from, to, nodes, c, e)
					}
					continue
				}
				want := []int{to}
				for want[0] != from {
					want = slices.Insert(want, 0, before[want[0]])
				}
				if !slices.Equal(nodes, want) || c != cost[to] || e != api.OK {
					t.Fatal(g, from, to, nodes, c, e, want)
				}
			}
		}
	}
}

func TestP5_3_Verify(t *testing.T) {
	ring := of(4, [3]int{0, 1, 5}, [3]int{1, 2, 0}, [3]int{2, 1, 0}, [3]int{3, 3, 0})
	twice := of(3, [3]int{0, 1, 2}, [3]int{0, 1, 1}, [3]int{1, 2, 3}, [3]int{0, 2, 4})
	for _, x := range []struct {
		name         string
		g            api.Graph
		from         int
		cost, before []int
		e            int
	}{
		{"of the chapter", example, 0, []int{0, 4, 1, 4}, []int{no, 0, 0, 1}, api.OK},
		{"another predecessor", example, 0, []int{0, 4, 1, 4}, []int{no, 2, 0, 2}, api.OK},
		{"not all are reached", example, 1, []int{no, 0, no, 0}, []int{no, no, no, 1}, api.OK},
		{"nothing is reached", example, 3, []int{no, no, no, 0}, []int{no, no, no, no}, api.OK},
		{"the cheaper of two arcs", twice, 0, []int{0, 1, 4}, []int{no, 0, 1}, api.OK},
		{"no node from", example, 4, nil, nil, api.ErrRange},
		{"a node from below 0", example, -1, []int{0, 4, 1, 4}, []int{no, 0, 0, 1}, api.ErrRange},
		{"no costs", example, 0, nil, []int{no, 0, 0, 1}, api.ErrForm},
		{"no predecessors", example, 0, []int{0, 4, 1, 4}, nil, api.ErrForm},
		{"a cost is missing", example, 0, []int{0, 4, 1}, []int{no, 0, 0, 1}, api.ErrForm},
		{"a predecessor is missing", example, 0, []int{0, 4, 1, 4}, []int{no, 0, 0}, api.ErrForm},
		{"a cost too many", example, 0, []int{0, 4, 1, 4, 0}, []int{no, 0, 0, 1}, api.ErrForm},
		{"a predecessor too many", example, 0, []int{0, 4, 1, 4}, []int{no, 0, 0, 1, 0}, api.ErrForm},
		{"form before proof", example, 0, []int{5, 5, 5, 5, 5}, []int{5, 5, 5, 5}, api.ErrForm},
		{"the start costs something", example, 0, []int{1, 5, 2, 5}, []int{no, 0, 0, 1}, api.ErrProof},
		{"the start is not reached", example, 0, []int{no, no, no, no}, []int{no, no, no, no}, api.ErrProof},
		{"the start has a predecessor", of(2, [3]int{0, 1, 0}, [3]int{1, 0, 0}), 0, []int{0, 0}, []int{1, 0}, api.ErrProof},
		{"the start before itself", of(1, [3]int{0, 0, 0}), 0, []int{0}, []int{0}, api.ErrProof},
		{"too high", example, 0, []int{0, 5, 1, 4}, []int{no, 0, 0, 2}, api.ErrProof},
		{"too low", example, 0, []int{0, 3, 1, 3}, []int{no, 0, 0, 1}, api.ErrProof},
		{"a dearer arc between the nodes", twice, 0, []int{0, 2, 4}, []int{no, 0, 0}, api.ErrProof},
		{"a way that is not least", of(3, [3]int{0, 1, 5}, [3]int{0, 2, 1}, [3]int{2, 1, 1}), 0, []int{0, 5, 1}, []int{no, 0, 0}, api.ErrProof},
		{"no arc from the predecessor", example, 0, []int{0, 4, 1, 4}, []int{no, 3, 0, 1}, api.ErrProof},
		{"an arc the other way round", example, 0, []int{0, 4, 1, 4}, []int{no, 0, 1, 1}, api.ErrProof},
		{"a cost without a predecessor", example, 0, []int{0, 4, 1, 4}, []int{no, 0, 0, no}, api.ErrProof},
		{"a predecessor without a cost", example, 3, []int{no, no, no, 0}, []int{no, 0, no, no}, api.ErrProof},
		{"a reached node without a cost", example, 0, []int{0, 4, 1, no}, []int{no, 0, 0, no}, api.ErrProof},
		{"a cost of -2", example, 3, []int{-2, no, no, 0}, []int{no, no, no, no}, api.ErrProof},
		{"a predecessor of -2", example, 3, []int{no, no, no, 0}, []int{-2, no, no, no}, api.ErrProof},
		{"the least int", example, 0, []int{0, 4, 1, least}, []int{no, 0, 0, 1}, api.ErrProof},
		{"the greatest int", example, 0, []int{0, 4, 1, most}, []int{no, 0, 0, 1}, api.ErrProof},
		{"a predecessor that there is not", example, 0, []int{0, 4, 1, 4}, []int{no, 0, 0, 4}, api.ErrProof},
		{"a huge predecessor", example, 0, []int{0, 4, 1, 4}, []int{no, 0, 0, most}, api.ErrProof},
		{"a predecessor that is not reached", of(3, [3]int{1, 2, 1}), 0, []int{0, no, 0}, []int{no, no, 1}, api.ErrProof},
		{"one that is not reached, a cost below it", of(3, [3]int{2, 1, 0}), 0, []int{0, no, no}, []int{no, 2, no}, api.ErrProof},
		{"a ring that explains itself", ring, 0, []int{0, 5, 5, no}, []int{no, 2, 1, no}, api.ErrProof},
		{"a ring that is entered", ring, 0, []int{0, 5, 5, no}, []int{no, 0, 1, no}, api.OK},
		{"a node that explains itself", ring, 0, []int{0, 5, 5, 0}, []int{no, 0, 1, 3}, api.ErrProof},
		{"a ring that is too cheap", ring, 0, []int{0, 3, 3, no}, []int{no, 2, 1, no}, api.ErrProof},
		{"a huge cost of a ring", ring, 0, []int{0, 5, 5, most}, []int{no, 0, 1, 3}, api.ErrProof},
		{"huge costs do not wrap around", of(3, [3]int{1, 2, 1}), 0, []int{0, most, no}, []int{no, 0, no}, api.ErrProof},
		{"the longest way", row(3, maxCost), 0, []int{0, maxCost, 2 * maxCost}, []int{no, 0, 1}, api.OK},
	} {
		if e := graph.Verify(x.g, x.from, x.cost, x.before); e != x.e {
			t.Error(x.name, e)
		}
	}
}

// TestP5_3_OwnResults finds that the lists of Distances are accepted, and only right costs are when a cost is changed.
func TestP5_3_OwnResults(t *testing.T) {
	for _, g := range samples(4) {
		for from := range min(g.Nodes, 4) {
			cost, before, _ := graph.Distances(g, from)
			if e := graph.Verify(g, from, cost, before); e != api.OK {
				t.Fatal(g, from, e)
			}
			for v := range g.Nodes {
				for _, d := range []int{-1, 1, -maxCost, maxCost} {
					cost[v] += d
					if e := graph.Verify(g, from, cost, before); e != api.ErrProof {
						t.Fatal(g, from, v, d, e)
					}
					cost[v] -= d
				}
			}
		}
	}
}

// explained reports whether going back from a node leads to the start over arcs that cost what the costs differ by.
func explained(g api.Graph, from, v int, cost, before []int) bool {
	for range g.Nodes {
		if v == from {
			return true
		}
		u := before[v]
		if u < 0 || u >= g.Nodes || !slices.Contains(g.Arcs, api.Arc{From: u, To: v, Cost: cost[v] - cost[u]}) {
			return false
		}
		v = u
	}
	return v == from
}

// TestP5_3_All tries all lists of small numbers: those are accepted that have the least costs and ways that explain them.
func TestP5_3_All(t *testing.T) {
	accepted := 0
	r := rand.New(rand.NewPCG(5, 5))
	for range 40 {
		g := random(r, 3, 1+r.IntN(6), 2)
		least, _ := wantDistances(g, 0)
		for code := range 6 * 6 * 6 * 5 * 5 * 5 {
			digits := func(base int) int {
				d := code % base
				code /= base
				return d
			}
			cost := []int{digits(6) - 2, digits(6) - 2, digits(6) - 2}
			before := []int{digits(5) - 2, digits(5) - 2, digits(5) - 2}
			right := slices.Equal(cost, least) && before[0] == no
			for v := 1; v < 3 && right; v++ {
				right = least[v] == no && before[v] == no || least[v] != no && explained(g, 0, v, cost, before)
			}
			e := graph.Verify(g, 0, cost, before)
			if right != (e == api.OK) || !right && e != api.ErrProof {
				t.Fatal(g, cost, before, right, e)
			}
			if right {
				accepted++
			}
		}
	}
	if accepted < 40 {
		t.Error("only", accepted)
	}
}

func TestP5_4_Reach(t *testing.T) {
	yes, not := true, false
	for _, x := range []struct {
		g    api.Graph
		from []int
		want []bool
		e    int
	}{
		{example, []int{3}, []bool{not, not, not, yes}, api.OK},
		{example, []int{1}, []bool{not, yes, not, yes}, api.OK},
		{example, []int{3, 2, 3, 2}, []bool{not, yes, yes, yes}, api.OK},
		{example, nil, []bool{not, not, not, not}, api.OK},
		{api.Graph{}, nil, nil, api.OK},
		{of(2, [3]int{0, 0, 0}), []int{0}, []bool{yes, not}, api.OK},
		{example, []int{4}, nil, api.ErrRange},
		{example, []int{0, 1, -1}, nil, api.ErrRange},
		{example, []int{most, 0}, nil, api.ErrRange},
		{example, []int{least}, nil, api.ErrRange},
		{api.Graph{}, []int{0}, nil, api.ErrRange},
	} {
		if got, e := graph.Reach(x.g, x.from); !slices.Equal(got, x.want) || e != x.e {
			t.Error(x.g, x.from, got, e)
		}
	}
}

func TestP5_4_Components(t *testing.T) {
	all := make([][2]int, api.MaxArcs)
	for i := range all {
		all[i] = [2]int{63 - i%63, 62 - i%63}
	}
	for _, x := range []struct {
		n     int
		pairs [][2]int
		want  []int
		e     int
	}{
		{5, [][2]int{{3, 1}, {4, 3}}, []int{0, 1, 2, 1, 1}, api.OK},
		{5, [][2]int{{4, 3}, {2, 1}, {3, 2}}, []int{0, 1, 1, 1, 1}, api.OK},
		{4, [][2]int{{0, 3}, {1, 2}, {2, 2}, {3, 0}}, []int{0, 1, 1, 0}, api.OK},
		{4, [][2]int{{3, 2}, {1, 0}, {3, 1}}, []int{0, 0, 0, 0}, api.OK},
		{3, nil, []int{0, 1, 2}, api.OK},
		{0, nil, nil, api.OK},
		{api.MaxNodes, all, make([]int, api.MaxNodes), api.OK},
		{-1, nil, nil, api.ErrRange},
		{api.MaxNodes + 1, nil, nil, api.ErrRange},
		{most, [][2]int{{0, 1}}, nil, api.ErrRange},
		{least, make([][2]int, api.MaxArcs+1), nil, api.ErrRange},
		{3, make([][2]int, api.MaxArcs+1), nil, api.ErrLimit},
		{0, make([][2]int, api.MaxArcs+1), nil, api.ErrLimit},
		{0, make([][2]int, 1), nil, api.ErrRange},
		{3, [][2]int{{0, 1}, {3, 0}}, nil, api.ErrRange},
		{3, [][2]int{{0, 1}, {0, 3}}, nil, api.ErrRange},
		{3, [][2]int{{-1, 0}}, nil, api.ErrRange},
		{3, [][2]int{{0, least}}, nil, api.ErrRange},
		{3, [][2]int{{most, 0}}, nil, api.ErrRange},
	} {
		if got, e := graph.Components(x.n, x.pairs); !slices.Equal(got, x.want) || e != x.e {
			t.Error(x.n, x.pairs, got, e)
		}
	}
}

// TestP5_4_Definitions compares with ways: Reach with the costs, Components with the ways in both directions.
func TestP5_4_Definitions(t *testing.T) {
	for _, g := range samples(6) {
		both := api.Graph{Nodes: g.Nodes, Arcs: g.Arcs[:min(len(g.Arcs), api.MaxArcs/2)]}
		var pairs [][2]int
		for _, a := range both.Arcs {
			pairs = append(pairs, [2]int{a.From, a.To})
		}
		for _, p := range pairs {
			both.Arcs = append(slices.Clip(both.Arcs), api.Arc{From: p[1], To: p[0]})
		}
		lowest, _ := graph.Components(g.Nodes, pairs)
		for from := range min(g.Nodes, 6) {
			cost, _ := wantDistances(g, from)
			reached, _ := graph.Reach(g, []int{from})
			connected, _ := wantDistances(both, from)
			first := slices.IndexFunc(connected, func(c int) bool { return c != no })
			if lowest[from] != first {
				t.Fatal(g, from, lowest)
			}
			for v := range g.Nodes {
				if reached[v] != (cost[v] != no) {
					t.Fatal(g, from, v, reached)
				}
			}
			last, _ := wantDistances(g, g.Nodes-1)
			reached, _ = graph.Reach(g, []int{g.Nodes - 1, from})
			for v := range g.Nodes {
				if reached[v] != (cost[v] != no || last[v] != no) {
					t.Fatal(g, from, v, reached)
				}
			}
		}
	}
}

func TestP5_5_Tree(t *testing.T) {
	for _, x := range []struct {
		name string
		g    api.Graph
		arcs []int
		cost int
		e    int
	}{
		{"of the chapter", example, []int{1, 2, 3}, 4, api.OK},
		{"one node", api.Graph{Nodes: 1}, nil, 0, api.OK},
		{"one node with rings", of(1, [3]int{0, 0, 0}, [3]int{0, 0, 3}), nil, 0, api.OK},
		{"no node", api.Graph{}, nil, 0, api.ErrNone},
		{"no arc", api.Graph{Nodes: 2}, nil, 0, api.ErrNone},
		{"only rings", of(2, [3]int{0, 0, 0}, [3]int{1, 1, 3}), nil, 0, api.ErrNone},
		{"two parts", of(4, [3]int{0, 1, 1}, [3]int{1, 0, 1}, [3]int{2, 3, 1}), nil, 0, api.ErrNone},
		{"directions do not matter", of(3, [3]int{1, 0, 2}, [3]int{1, 2, 2}), []int{0, 1}, 4, api.OK},
		{"equal costs: the lower numbers", of(3, [3]int{2, 1, 7}, [3]int{0, 1, 7}, [3]int{0, 2, 7}), []int{0, 1}, 14, api.OK},
		{"ascending numbers, not costs", of(3, [3]int{0, 1, 9}, [3]int{1, 2, 8}), []int{0, 1}, 17, api.OK},
		{"equal arcs", of(2, [3]int{0, 1, 5}, [3]int{1, 0, 3}, [3]int{0, 1, 3}), []int{1}, 3, api.OK},
		{"the greatest cost", of(2, [3]int{0, 1, maxCost}), []int{0}, maxCost, api.OK},
	} {
		if arcs, cost, e := graph.Tree(x.g); !slices.Equal(arcs, x.arcs) || cost != x.cost || e != x.e {
			t.Error(x.name, arcs, cost, e)
		}
	}
	if arcs, cost, e := graph.Tree(row(api.MaxNodes, maxCost)); len(arcs) != 63 || cost != 63*maxCost || e != api.OK {
		t.Error("a long row", arcs, cost, e)
	}
}

// spanning reports whether some arcs, as many as a tree has, connect all nodes.
func spanning(g api.Graph, arcs []int) bool {
	both := api.Graph{Nodes: g.Nodes}
	for _, i := range arcs {
		a := g.Arcs[i]
		both.Arcs = append(both.Arcs, a, api.Arc{From: a.To, To: a.From})
	}
	cost, _ := wantDistances(both, 0)
	return len(arcs) == g.Nodes-1 && !slices.Contains(cost, no)
}

// TestP5_5_All goes through all sets of arcs: with a little added to the cost of each arc, more to later ones, only one tree is least.
func TestP5_5_All(t *testing.T) {
	r := rand.New(rand.NewPCG(5, 7))
	trees := 0
	for range 150 {
		g := random(r, 1+r.IntN(5), r.IntN(10), 1+r.IntN(4))
		var want []int
		wantCost, wantKey, wantE := 0, 0, api.ErrNone
		for set := range 1 << len(g.Arcs) {
			var arcs []int
			cost := 0
			for i, a := range g.Arcs {
				if set>>i&1 == 1 {
					arcs = append(arcs, i)
					cost += a.Cost
				}
			}
			key := cost<<len(g.Arcs) + set
			if len(arcs) == g.Nodes-1 && (wantE != api.OK || key < wantKey) && spanning(g, arcs) {
				want, wantCost, wantKey, wantE = arcs, cost, key, api.OK
			}
		}
		if arcs, cost, e := graph.Tree(g); !slices.Equal(arcs, want) || cost != wantCost || e != wantE {
			t.Fatal(g, arcs, cost, e, want, wantCost)
		}
		if wantE == api.OK {
			trees++
		}
	}
	if trees < 30 {
		t.Error("only", trees)
	}
}

// TestP5_5_Large goes through the arcs as the chapter says, where so many cost the same that their order is easily lost.
func TestP5_5_Large(t *testing.T) {
	r := rand.New(rand.NewPCG(5, 12))
	for round := range 40 {
		g := random(r, 20+round, api.MaxArcs, round%4)
		var want []int
		connected := api.Graph{Nodes: g.Nodes}
		for cost := range 4 {
			for i, a := range g.Arcs {
				if a.Cost != cost {
					continue
				}
				if reached, _ := wantDistances(connected, a.From); reached[a.To] == no {
					want = append(want, i)
					connected.Arcs = append(connected.Arcs, a, api.Arc{From: a.To, To: a.From})
				}
			}
		}
		slices.Sort(want)
		wantE := api.OK
		if len(want) < g.Nodes-1 {
			want, wantE = nil, api.ErrNone
		}
		if arcs, _, e := graph.Tree(g); !slices.Equal(arcs, want) || e != wantE {
			t.Fatal(g, arcs, e, want)
		}
	}
}

func TestP5_6_Order(t *testing.T) {
	for _, x := range []struct {
		name string
		g    api.Graph
		list []int
		e    int
	}{
		{"of the chapter", example, []int{0, 2, 1, 3}, api.OK},
		{"no node", api.Graph{}, nil, api.OK},
		{"no arc", api.Graph{Nodes: 3}, []int{0, 1, 2}, api.OK},
		{"backward", of(3, [3]int{2, 1, 0}, [3]int{1, 0, 0}), []int{2, 1, 0}, api.OK},
		{"a node that becomes free goes before later ones", of(4, [3]int{1, 0, 0}), []int{1, 0, 2, 3}, api.OK},
		{"equal arcs", of(3, [3]int{2, 0, 0}, [3]int{2, 0, 5}, [3]int{2, 0, 0}), []int{1, 2, 0}, api.OK},
		{"an arc to the same node", of(2, [3]int{1, 1, 0}), nil, api.ErrState},
		{"two nodes", of(2, [3]int{0, 1, 1}, [3]int{1, 0, 1}), nil, api.ErrState},
		{"a ring at the end", of(5, [3]int{0, 2, 0}, [3]int{2, 3, 0}, [3]int{3, 4, 0}, [3]int{4, 2, 0}), nil, api.ErrState},
		{"a ring with arcs out of it", of(4, [3]int{0, 1, 0}, [3]int{1, 0, 0}, [3]int{1, 2, 0}, [3]int{2, 3, 0}), nil, api.ErrState},
	} {
		if list, e := graph.Order(x.g); !slices.Equal(list, x.list) || e != x.e {
			t.Error(x.name, list, e)
		}
	}
}

// orders calls a function with all lists of the nodes in ascending order, until it returns false.
func orders(nodes int, list []int, each func([]int) bool) bool {
	if len(list) == nodes {
		return each(list)
	}
	for v := range nodes {
		if !slices.Contains(list, v) && !orders(nodes, append(slices.Clip(list), v), each) {
			return false
		}
	}
	return true
}

func TestP5_6_All(t *testing.T) {
	r := rand.New(rand.NewPCG(5, 8))
	ordered := 0
	for range 400 {
		g := random(r, 1+r.IntN(6), r.IntN(9), 3)
		var want []int
		wantE := api.ErrState
		orders(g.Nodes, nil, func(list []int) bool {
			for _, a := range g.Arcs {
				if slices.Index(list, a.From) >= slices.Index(list, a.To) {
					return true
				}
			}
			want, wantE = list, api.OK
			return false
		})
		if list, e := graph.Order(g); !slices.Equal(list, want) || e != wantE {
			t.Fatal(g, list, e, want)
		}
		if wantE == api.OK {
			ordered++
		}
	}
	if ordered < 30 {
		t.Error("only", ordered)
	}
}

func TestP5_7_TriangleInequality(t *testing.T) {
	for _, g := range samples(9)[:200] {
		var costs [][]int
		for from := range g.Nodes {
			cost, _, _ := graph.Distances(g, from)
			costs = append(costs, cost)
		}
		for u := range g.Nodes {
			for v := range g.Nodes {
				for w := range g.Nodes {
					first, second, whole := costs[u][v], costs[v][w], costs[u][w]
					if first != no && second != no && (whole == no || whole > first+second) {
						t.Fatal(g, u, v, w)
					}
				}
			}
		}
	}
}

// TestP5_7_Paths finds that ways of Path follow arcs whose cheapest ones have the cost that it returns.
func TestP5_7_Paths(t *testing.T) {
	for _, g := range samples(10) {
		for to := range g.Nodes {
			nodes, cost, e := graph.Path(g, 0, to)
			costs, _, _ := graph.Distances(g, 0)
			reached, _ := graph.Reach(g, []int{0})
			if (e == api.OK) != reached[to] || reached[to] != (costs[to] != no) {
				t.Fatal(g, to, e, costs, reached)
			}
			if e != api.OK {
				continue
			}
			sum := 0
			for i := range len(nodes) - 1 {
				cheapest := no
				for _, a := range g.Arcs {
					if a.From == nodes[i] && a.To == nodes[i+1] && (cheapest == no || a.Cost < cheapest) {
						cheapest = a.Cost
					}
				}
				if cheapest == no {
					t.Fatal(g, nodes)
				}
				sum += cheapest
			}
			if nodes[0] != 0 || nodes[len(nodes)-1] != to || sum != cost || cost != costs[to] {
				t.Fatal(g, to, nodes, cost, sum)
			}
		}
	}
}

// TestP5_7_Classes finds that components are the same for all nodes of one, and that trees exist if there is one component.
func TestP5_7_Classes(t *testing.T) {
	for _, g := range samples(11) {
		var pairs [][2]int
		for _, a := range g.Arcs {
			pairs = append(pairs, [2]int{a.To, a.From})
		}
		lowest, e := graph.Components(g.Nodes, pairs)
		if e != api.OK {
			t.Fatal(g, e)
		}
		one := true
		for v, l := range lowest {
			if l > v || lowest[l] != l {
				t.Fatal(g, lowest)
			}
			one = one && l == 0
		}
		for _, p := range pairs {
			if lowest[p[0]] != lowest[p[1]] {
				t.Fatal(g, lowest, p)
			}
		}
		arcs, _, e := graph.Tree(g)
		if one != (e == api.OK) || one && !spanning(g, arcs) {
			t.Fatal(g, lowest, arcs, e)
		}
	}
}
