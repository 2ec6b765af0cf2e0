package flow_test

import (
	"math/rand/v2"
	"slices"
	"testing"

	"coupe/api"
	"coupe/flow"
)

const (
	least        = -1 << 63
	most         = 1<<63 - 1
	maxNumber    = 1000000000
	maxSupplied  = 1000000
	maxPotential = 1000000000000
	yes, not     = true, false
)

// example is the network of the chapter.
var example = of(4, [4]int{0, 1, 3, 1}, [4]int{0, 2, 2, 4}, [4]int{1, 2, 2, 1}, [4]int{1, 3, 1, 6}, [4]int{2, 3, 3, 1})

// of makes a network of links that are written as their four numbers.
func of(nodes int, links ...[4]int) api.Net {
	n := api.Net{Nodes: nodes}
	for _, l := range links {
		n.Links = append(n.Links, api.Link{From: l[0], To: l[1], Cap: l[2], Cost: l[3]})
	}
	return n
}

// many has so many equal links without a capacity.
func many(nodes, links int) api.Net {
	return api.Net{Nodes: nodes, Links: make([]api.Link, links)}
}

// random makes a network, also with links side by side, back and forth, and from a node to itself.
func random(r *rand.Rand, nodes, links, capacity, cost int) api.Net {
	n := api.Net{Nodes: nodes}
	for range links {
		n.Links = append(n.Links, api.Link{From: r.IntN(nodes), To: r.IntN(nodes), Cap: r.IntN(capacity + 1), Cost: r.IntN(cost + 1)})
	}
	return n
}

// supplies makes supplies that can be carried more often than not: those of some flow, and now and then others.
func supplies(r *rand.Rand, n api.Net) []int {
	amounts := make([]int, len(n.Links))
	for i, l := range n.Links {
		amounts[i] = r.IntN(l.Cap + 1)
	}
	supply := surpluses(n, amounts)
	if r.IntN(3) == 0 && n.Nodes > 1 {
		v, w := r.IntN(n.Nodes), r.IntN(n.Nodes)
		supply[v]++
		supply[w]--
	}
	return supply
}

// invalidCase is a network that is not valid, with its error.
type invalidCase struct {
	name string
	n    api.Net
	e    int
}

func invalid() []invalidCase {
	tooMany := many(2, api.MaxArcs+1)
	tooMany.Links[0] = api.Link{From: 5}
	return []invalidCase{
		{"nodes below 0", api.Net{Nodes: -1}, api.ErrRange},
		{"too many nodes", api.Net{Nodes: api.MaxNodes + 1}, api.ErrRange},
		{"the least int", api.Net{Nodes: least}, api.ErrRange},
		{"the greatest int", api.Net{Nodes: most}, api.ErrRange},
		{"nodes before links", many(-1, api.MaxArcs+1), api.ErrRange},
		{"too many links", many(1, api.MaxArcs+1), api.ErrLimit},
		{"too many links without a node", many(0, api.MaxArcs+1), api.ErrLimit},
		{"their number before each of them", tooMany, api.ErrLimit},
		{"a link without nodes", of(0, [4]int{0, 0, 0, 0}), api.ErrRange},
		{"from below 0", of(2, [4]int{0, 1, 1, 1}, [4]int{-1, 1, 1, 1}), api.ErrRange},
		{"from behind", of(2, [4]int{2, 1, 1, 1}), api.ErrRange},
		{"to below 0", of(2, [4]int{1, -1, 1, 1}), api.ErrRange},
		{"to behind", of(2, [4]int{1, 2, 1, 1}), api.ErrRange},
		{"huge ends", of(2, [4]int{least, most, 1, 1}), api.ErrRange},
		{"a capacity below 0", of(2, [4]int{0, 1, -1, 1}), api.ErrRange},
		{"a capacity above the limit", of(2, [4]int{0, 1, maxNumber + 1, 1}), api.ErrRange},
		{"a cost below 0", of(2, [4]int{0, 1, 1, -1}), api.ErrRange},
		{"a cost above the limit", of(2, [4]int{0, 1, 1, maxNumber + 1}), api.ErrRange},
		{"the least capacity and cost", of(2, [4]int{0, 1, least, least}), api.ErrRange},
		{"the greatest capacity and cost", of(2, [4]int{0, 1, most, most}), api.ErrRange},
		{"the last link", of(3, [4]int{0, 1, 0, maxNumber}, [4]int{1, 2, maxNumber, 0}, [4]int{2, 3, 0, 0}), api.ErrRange},
	}
}

// surpluses follows the definition node by node.
func surpluses(n api.Net, amounts []int) []int {
	rest := make([]int, n.Nodes)
	for v := range rest {
		for i, l := range n.Links {
			if l.From == v {
				rest[v] += amounts[i]
			}
			if l.To == v {
				rest[v] -= amounts[i]
			}
		}
	}
	return rest
}

// fits reports whether there is an amount for each link, from 0 to its capacity.
func fits(n api.Net, amounts []int) bool {
	for i, l := range n.Links {
		if amounts[i] < 0 || amounts[i] > l.Cap {
			return false
		}
	}
	return len(amounts) == len(n.Links)
}

// leads reports whether amounts lead from one node to another: all others have the surplus 0.
func leads(n api.Net, amounts []int, from, to int) bool {
	rest := surpluses(n, amounts)
	rest[from], rest[to] = 0, 0
	return fits(n, amounts) && slices.Equal(rest, make([]int, n.Nodes))
}

func capacity(n api.Net, cut []bool) int {
	sum := 0
	for _, l := range n.Links {
		if cut[l.From] && !cut[l.To] {
			sum += l.Cap
		}
	}
	return sum
}

func costOf(n api.Net, amounts []int) int {
	sum := 0
	for i, l := range n.Links {
		sum += l.Cost * amounts[i]
	}
	return sum
}

// residualReach returns the nodes to which residual ways lead: it joins nodes until there are no more.
func residualReach(n api.Net, amounts []int, from int) []bool {
	side := make([]bool, n.Nodes)
	side[from] = true
	for range n.Nodes {
		for i, l := range n.Links {
			if side[l.From] && amounts[i] < l.Cap {
				side[l.To] = true
			}
			if side[l.To] && amounts[i] > 0 {
				side[l.From] = true
			}
		}
	}
	return side
}

// lists calls a function with all lists of numbers from low up to the bounds.
func lists(low int, high []int, use func([]int)) {
	l := slices.Repeat([]int{low}, len(high))
	for {
		use(slices.Clone(l))
		i := 0
		for i < len(l) && l[i] == high[i] {
			l[i] = low
			i++
		}
		if i == len(l) {
			return
		}
		l[i]++
	}
}

// flows calls a function with all lists of amounts from 0 to the capacities.
func flows(n api.Net, use func([]int)) {
	var caps []int
	for _, l := range n.Links {
		caps = append(caps, l.Cap)
	}
	lists(0, caps, use)
}

// sets calls a function with all sets of nodes.
func sets(nodes int, use func([]bool)) {
	for code := range 1 << nodes {
		set := make([]bool, nodes)
		for v := range set {
			set[v] = code>>v&1 == 1
		}
		use(set)
	}
}

// wantMax tries all flows.
func wantMax(n api.Net, from, to int) ([]int, int) {
	var best []int
	value := -1
	flows(n, func(amounts []int) {
		if v := surpluses(n, amounts)[from]; leads(n, amounts, from, to) && v > value {
			best, value = amounts, v
		}
	})
	return best, value
}

// wantCost tries all flows; without any that has the supplies it is -1.
func wantCost(n api.Net, supply []int) int {
	cost := -1
	flows(n, func(amounts []int) {
		if c := costOf(n, amounts); slices.Equal(surpluses(n, amounts), supply) && (cost < 0 || c < cost) {
			cost = c
		}
	})
	return cost
}

// TestP1_AnyArguments calls all functions with arguments of any form: none panics, and beside an error there is nothing else.
func TestP1_AnyArguments(t *testing.T) {
	nums := []int{least, least + 1, -maxNumber, -1, 0, 1, 3, 4, maxSupplied, 1 << 32, most}
	nets := []api.Net{{}, {Nodes: 1}, {Nodes: 4}, example, many(api.MaxNodes, api.MaxArcs), of(2, [4]int{0, 1, maxNumber, maxNumber}), of(2, [4]int{0, 0, 1, 0}, [4]int{0, 1, 1, 0})}
	for _, x := range invalid() {
		nets = append(nets, x.n)
	}
	beside := func(name string, something bool, e int) {
		t.Helper()
		if something && e != api.OK {
			t.Error(name, "has a result beside the error", e)
		}
	}
	for _, n := range nets {
		flow.Check(n)
		for _, a := range nums {
			for _, b := range nums {
				amounts, cut, value, e := flow.Max(n, a, b)
				beside("Max", amounts != nil || cut != nil || value != 0, e)
				for _, size := range []int{0, 1, 2, 4, 5, len(n.Links)} {
					l, set := slices.Repeat([]int{a}, size), make([]bool, max(0, min(n.Nodes, 70)))
					flow.Verify(n, 0, 1, l, set, b)
					supply := make([]int, len(set))
					flow.VerifyCost(n, supply, l, slices.Repeat([]int{b}, len(set)), a)
					if len(supply) > 1 {
						supply[0], supply[1] = a, b
					}
					flow.VerifyShortage(n, supply, set)
					cut, e := flow.Shortage(n, supply)
					beside("Shortage", cut != nil, e)
					amounts, potentials, cost, e := flow.MinCost(n, supply)
					beside("MinCost", amounts != nil || potentials != nil || cost != 0, e)
					flow.Shortage(n, l)
					flow.MinCost(n, l)
				}
			}
		}
	}
}

func TestP1_ArgumentsAreKept(t *testing.T) {
	n := api.Net{Nodes: example.Nodes, Links: slices.Grow(slices.Clone(example.Links), 90)}
	spare := n.Links[:cap(n.Links)]
	for i := len(n.Links); i < len(spare); i++ {
		spare[i] = api.Link{From: 9, To: 9, Cap: 9, Cost: 9}
	}
	supply, scarce := append(make([]int, 0, 99), 3, 0, 0, -3), append(make([]int, 0, 99), 5, 0, 0, -5)
	keptLinks, keptSupply, keptScarce := slices.Clone(spare), slices.Clone(supply[:99]), slices.Clone(scarce[:99])
	for range 2 {
		amounts, cut, value, _ := flow.Max(n, 0, 3)
		keptAmounts, keptCut := slices.Clone(amounts), slices.Clone(cut)
		if e := flow.Verify(n, 0, 3, amounts, cut, value); e != api.OK || value != 4 || !slices.Equal(amounts, keptAmounts) || !slices.Equal(cut, keptCut) {
			t.Error(amounts, cut, value, e)
		}
		cheap, potentials, cost, _ := flow.MinCost(n, supply)
		keptCheap, keptPotentials := slices.Clone(cheap), slices.Clone(potentials)
		if e := flow.VerifyCost(n, supply, cheap, potentials, cost); e != api.OK || cost != 11 || !slices.Equal(cheap, keptCheap) || !slices.Equal(potentials, keptPotentials) {
			t.Error(cheap, potentials, cost, e)
		}
		set, _ := flow.Shortage(n, scarce)
		keptSet := slices.Clone(set)
		if e := flow.VerifyShortage(n, scarce, set); e != api.OK || !slices.Equal(set, keptSet) {
			t.Error(set, e)
		}
		// Results are the caller's: what is done with them, or behind their ends, does not show in later ones.
		clear(amounts[:cap(amounts)])
		clear(cut[:cap(cut)])
		clear(cheap[:cap(cheap)])
		clear(potentials[:cap(potentials)])
		clear(set[:cap(set)])
	}
	if !slices.Equal(spare, keptLinks) || !slices.Equal(supply[:99], keptSupply) || !slices.Equal(scarce[:99], keptScarce) {
		t.Error("arguments were changed")
	}
}

func TestP8_1_Check(t *testing.T) {
	for _, x := range invalid() {
		if e := flow.Check(x.n); e != x.e {
			t.Error(x.name, e)
		}
	}
	full := many(api.MaxNodes, api.MaxArcs)
	full.Links[api.MaxArcs-1] = api.Link{From: api.MaxNodes - 1, To: api.MaxNodes - 1, Cap: maxNumber, Cost: maxNumber}
	for i, n := range []api.Net{{}, {Nodes: api.MaxNodes}, example, full, of(1, [4]int{0, 0, 0, 0}, [4]int{0, 0, maxNumber, 0})} {
		if e := flow.Check(n); e != api.OK {
			t.Error(i, e)
		}
	}
}

// TestP8_1_First finds that each function returns the error of Check before others.
func TestP8_1_First(t *testing.T) {
	for _, x := range invalid() {
		_, _, _, maximum := flow.Max(x.n, -1, -1)
		verify := flow.Verify(x.n, -1, -1, nil, []bool{not}, -1)
		_, _, _, minimum := flow.MinCost(x.n, []int{1})
		verifyCost := flow.VerifyCost(x.n, []int{1}, nil, []int{1}, -1)
		_, shortage := flow.Shortage(x.n, []int{1})
		verifyShortage := flow.VerifyShortage(x.n, []int{1}, []bool{not})
		for i, e := range []int{maximum, verify, minimum, verifyCost, shortage, verifyShortage} {
			if e != x.e {
				t.Error(x.name, i, e)
			}
		}
	}
}

func TestP8_2_Examples(t *testing.T) {
	for _, x := range []struct {
		name     string
		n        api.Net
		from, to int
		cut      []bool
		value    int
	}{
		{"of the chapter", example, 0, 3, []bool{yes, yes, yes, not}, 4},
		{"no way", example, 3, 0, []bool{not, not, not, yes}, 0},
		{"in the middle, with a dead end", example, 1, 2, []bool{not, yes, not, yes}, 2},
		{"no link", api.Net{Nodes: 2}, 1, 0, []bool{not, yes}, 0},
		{"no capacity", of(2, [4]int{0, 1, 0, 1}), 0, 1, []bool{yes, not}, 0},
		{"the link to itself does not count", of(2, [4]int{0, 0, 9, 0}, [4]int{0, 1, 2, 0}, [4]int{1, 1, 9, 0}), 0, 1, []bool{yes, not}, 2},
		{"a link backward does not count", of(2, [4]int{1, 0, 9, 0}, [4]int{0, 1, 2, 0}), 0, 1, []bool{yes, not}, 2},
		{"links side by side", of(2, [4]int{0, 1, 5, 0}, [4]int{0, 1, maxNumber, 7}), 0, 1, []bool{yes, not}, maxNumber + 5},
		{"the first of two narrow places", of(4, [4]int{0, 1, 5, 0}, [4]int{1, 2, 3, 0}, [4]int{2, 3, 3, 0}), 0, 3, []bool{yes, yes, not, not}, 3},
		{"a dead end", of(4, [4]int{0, 1, 3, 0}, [4]int{0, 2, 1, 0}, [4]int{1, 3, 3, 0}), 0, 3, []bool{yes, not, yes, not}, 3},
		{"a unit has to be sent back", of(4, [4]int{0, 1, 1, 0}, [4]int{1, 2, 1, 0}, [4]int{2, 3, 1, 0}, [4]int{0, 2, 1, 0}, [4]int{1, 3, 1, 0}), 0, 3, []bool{yes, not, not, not}, 2},
		{"a way back over what flows", of(5, [4]int{0, 1, 2, 0}, [4]int{1, 2, 1, 0}, [4]int{3, 2, 1, 0}, [4]int{2, 4, 1, 0}, [4]int{0, 3, 1, 0}), 0, 4, []bool{yes, yes, yes, yes, not}, 1},
	} {
		amounts, cut, value, e := flow.Max(x.n, x.from, x.to)
		if value != x.value || !slices.Equal(cut, x.cut) || e != api.OK || !leads(x.n, amounts, x.from, x.to) || surpluses(x.n, amounts)[x.from] != value {
			t.Error(x.name, amounts, cut, value, e)
		}
	}
}

func TestP8_2_Errors(t *testing.T) {
	for _, x := range []struct {
		n           api.Net
		from, to, e int
	}{
		{example, -1, 3, api.ErrRange},
		{example, 4, 3, api.ErrRange},
		{example, 0, -1, api.ErrRange},
		{example, 0, 4, api.ErrRange},
		{example, most, least, api.ErrRange},
		{example, 4, 4, api.ErrRange},
		{example, -1, -1, api.ErrRange},
		{api.Net{}, 0, 0, api.ErrRange},
		{api.Net{Nodes: 1}, 0, 0, api.ErrArg},
		{example, 0, 0, api.ErrArg},
		{example, 3, 3, api.ErrArg},
	} {
		amounts, cut, value, e := flow.Max(x.n, x.from, x.to)
		if e != x.e || amounts != nil || cut != nil || value != 0 {
			t.Error(x.n, x.from, x.to, amounts, cut, value, e)
		}
		if e := flow.Verify(x.n, x.from, x.to, nil, []bool{not}, 0); e != x.e {
			t.Error("Verify", x.n, x.from, x.to, e)
		}
	}
}

// TestP8_2_All compares with the best one of all flows.
func TestP8_2_All(t *testing.T) {
	r := rand.New(rand.NewPCG(8, 2))
	for range 3000 {
		n := random(r, 2+r.IntN(4), r.IntN(8), 1+r.IntN(3), 5)
		from, to := r.IntN(n.Nodes), r.IntN(n.Nodes)
		if from == to {
			continue
		}
		best, want := wantMax(n, from, to)
		amounts, cut, value, e := flow.Max(n, from, to)
		if e != api.OK || value != want || !leads(n, amounts, from, to) || surpluses(n, amounts)[from] != want {
			t.Fatal(n, from, to, amounts, value, e, want)
		}
		// The flow found here and that of Max may differ, but the same nodes are reached.
		if !slices.Equal(cut, residualReach(n, best, from)) {
			t.Fatal(n, from, to, cut, best)
		}
	}
}

// TestP8_2_Large finds flows in networks as large as they may be: the cut proves that they are greatest.
func TestP8_2_Large(t *testing.T) {
	r := rand.New(rand.NewPCG(8, 22))
	for range 60 {
		n := random(r, 8+r.IntN(api.MaxNodes-7), 100+r.IntN(157), []int{1, 10, maxNumber}[r.IntN(3)], maxNumber)
		amounts, cut, value, e := flow.Max(n, 0, 1)
		if e != api.OK || !leads(n, amounts, 0, 1) || surpluses(n, amounts)[0] != value || capacity(n, cut) != value || !slices.Equal(cut, residualReach(n, amounts, 0)) {
			t.Fatal(n, amounts, cut, value, e)
		}
	}
	wide := api.Net{Nodes: 2, Links: slices.Repeat([]api.Link{{From: 1, To: 0, Cap: maxNumber, Cost: maxNumber}}, api.MaxArcs)}
	if _, _, value, e := flow.Max(wide, 1, 0); value != api.MaxArcs*maxNumber || e != api.OK {
		t.Error(value, e)
	}
}

func TestP8_3_Verify(t *testing.T) {
	good, side := []int{3, 1, 2, 1, 3}, []bool{yes, yes, yes, not}
	ring := of(4, [4]int{0, 1, 2, 0}, [4]int{2, 3, 5, 0}, [4]int{3, 2, 5, 0}, [4]int{0, 0, 1, 0})
	short := of(3, [4]int{0, 1, 2, 0}, [4]int{1, 2, 2, 0})
	for _, x := range []struct {
		name     string
		n        api.Net
		from, to int
		flow     []int
		cut      []bool
		value, e int
	}{
		{"of the chapter", example, 0, 3, good, side, 4, api.OK},
		{"another flow", example, 0, 3, []int{2, 2, 1, 1, 3}, side, 4, api.OK},
		{"another cut", short, 0, 2, []int{2, 2}, []bool{yes, yes, not}, 2, api.OK},
		{"the least cut", short, 0, 2, []int{2, 2}, []bool{yes, not, not}, 2, api.OK},
		{"a ring apart, and one of a node", ring, 0, 1, []int{2, 4, 4, 1}, []bool{yes, not, not, not}, 2, api.OK},
		{"nothing", example, 3, 0, make([]int, 5), []bool{not, not, not, yes}, 0, api.OK},
		{"no node from", example, 4, 3, good, side, 4, api.ErrRange},
		{"no node to", example, 0, -1, good, side, 4, api.ErrRange},
		{"the same node", example, 3, 3, good, side, 4, api.ErrArg},
		{"ends before form", example, 3, 3, nil, nil, 4, api.ErrArg},
		{"no flow", example, 0, 3, nil, side, 4, api.ErrForm},
		{"an amount is missing", example, 0, 3, good[:4], side, 4, api.ErrForm},
		{"an amount too many", example, 0, 3, []int{3, 1, 2, 1, 3, 0}, side, 4, api.ErrForm},
		{"no cut", example, 0, 3, good, nil, 4, api.ErrForm},
		{"a node is missing", example, 0, 3, good, side[:3], 4, api.ErrForm},
		{"a node too many", example, 0, 3, good, []bool{yes, yes, yes, not, not}, 4, api.ErrForm},
		{"form before proof", example, 0, 3, []int{9, 9, 9, 9, 9}, nil, 5, api.ErrForm},
		{"below 0", example, 0, 3, []int{3, 1, 4, -1, 5}, side, 4, api.ErrProof},
		{"above the capacity", of(2, [4]int{0, 1, 2, 0}), 0, 1, []int{3}, []bool{yes, not}, 3, api.ErrProof},
		{"all the same", of(3, [4]int{0, 1, 2, 0}, [4]int{1, 2, 2, 0}), 0, 2, []int{3, 3}, []bool{yes, not, not}, 3, api.ErrProof},
		{"amounts that add up to more than an int", of(3, [4]int{0, 2, 1, 0}, [4]int{0, 2, 1, 0}), 0, 2, []int{most, most}, []bool{yes, not, not}, 2, api.ErrProof},
		{"the least int", of(2, [4]int{0, 1, 2, 0}), 0, 1, []int{least}, []bool{yes, not}, 2, api.ErrProof},
		{"a node that gains", example, 0, 3, []int{3, 1, 1, 1, 3}, side, 4, api.ErrProof},
		{"a node that keeps", example, 0, 3, []int{3, 1, 2, 1, 2}, side, 4, api.ErrProof},
		{"the last node keeps", of(3, [4]int{0, 1, 1, 0}, [4]int{0, 2, 1, 0}), 0, 1, []int{1, 1}, []bool{yes, not, not}, 2, api.ErrProof},
		{"less than the greatest", example, 0, 3, []int{3, 0, 2, 1, 2}, side, 3, api.ErrProof},
		{"another value", example, 0, 3, good, side, 3, api.ErrProof},
		{"the value of the cut, not of the flow", example, 0, 3, []int{3, 0, 2, 1, 2}, side, 4, api.ErrProof},
		{"the value of the end", example, 0, 3, good, side, -4, api.ErrProof},
		{"a cut with more", example, 0, 3, good, []bool{yes, not, not, not}, 4, api.ErrProof},
		{"without the first node", example, 0, 3, good, []bool{not, yes, yes, not}, 4, api.ErrProof},
		{"with the last node", example, 0, 3, good, []bool{yes, yes, yes, yes}, 4, api.ErrProof},
		{"with the last node, and the capacity", of(4, [4]int{0, 1, 2, 0}, [4]int{1, 3, 2, 0}), 0, 1, []int{2, 0}, []bool{yes, yes, yes, not}, 2, api.ErrProof},
		{"without the first node, and the capacity", of(4, [4]int{0, 1, 2, 0}, [4]int{3, 1, 2, 0}), 0, 1, []int{2, 0}, []bool{not, not, not, yes}, 2, api.ErrProof},
		{"against the direction", of(2, [4]int{1, 0, 2, 0}), 0, 1, []int{2}, []bool{yes, not}, -2, api.ErrProof},
	} {
		if e := flow.Verify(x.n, x.from, x.to, x.flow, x.cut, x.value); e != x.e {
			t.Error(x.name, e)
		}
	}
}

// TestP8_3_All tries all lists of small numbers, all cuts and values: what is accepted is the greatest value, and has all that proves it.
func TestP8_3_All(t *testing.T) {
	r := rand.New(rand.NewPCG(8, 3))
	accepted := 0
	for range 60 {
		n := random(r, 2+r.IntN(2), 1+r.IntN(3), 2, 1)
		_, greatest := wantMax(n, 0, 1)
		lists(-1, slices.Repeat([]int{3}, len(n.Links)), func(amounts []int) {
			proper := leads(n, amounts, 0, 1)
			sets(n.Nodes, func(cut []bool) {
				for value := -1; value < 6; value++ {
					right := proper && surpluses(n, amounts)[0] == value && greatest == value && cut[0] && !cut[1] && capacity(n, cut) == value
					e := flow.Verify(n, 0, 1, amounts, cut, value)
					if right != (e == api.OK) || !right && e != api.ErrProof {
						t.Fatal(n, amounts, cut, value, e, right)
					}
					if right {
						accepted++
					}
				}
			})
		})
	}
	if accepted < 60 {
		t.Error("only", accepted)
	}
}

func TestP8_4_Examples(t *testing.T) {
	around := of(3, [4]int{0, 1, 1, 1}, [4]int{0, 1, 9, 5}, [4]int{0, 2, 2, 1}, [4]int{2, 1, 9, 3})
	for _, x := range []struct {
		name   string
		n      api.Net
		supply []int
		cost   int
		e      int
	}{
		{"of the chapter", example, []int{3, 0, 0, -3}, 11, api.OK},
		{"too much, of the chapter", example, []int{5, 0, 0, -5}, 0, api.ErrInfeasible},
		{"all that can be carried", example, []int{4, 0, 0, -4}, 18, api.OK},
		{"nothing", example, []int{0, 0, 0, 0}, 0, api.OK},
		{"no node", api.Net{}, nil, 0, api.OK},
		{"one node", of(1, [4]int{0, 0, 5, 5}), []int{0}, 0, api.OK},
		{"no link", api.Net{Nodes: 2}, []int{1, -1}, 0, api.ErrInfeasible},
		{"backward", of(2, [4]int{1, 0, 5, 1}), []int{1, -1}, 0, api.ErrInfeasible},
		{"forward", of(2, [4]int{1, 0, 5, 1}), []int{-1, 1}, 1, api.OK},
		{"several nodes supply", example, []int{1, 1, 1, -3}, 6, api.OK},
		{"several nodes take", example, []int{3, -1, -1, -1}, 6, api.OK},
		{"a unit more has to go around", around, []int{3, -3, 0}, 1 + 4 + 4, api.OK},
		{"and one more directly", around, []int{4, -4, 0}, 1 + 4 + 4 + 5, api.OK},
		{"the cheapest way has to be given up", of(4, [4]int{0, 1, 1, 1}, [4]int{1, 2, 1, 1}, [4]int{2, 3, 1, 1}, [4]int{0, 2, 1, 5}, [4]int{1, 3, 1, 5}), []int{2, 0, 0, -2}, 12, api.OK},
		{"the limits", of(2, [4]int{0, 1, maxSupplied, maxSupplied}), []int{maxSupplied, -maxSupplied}, maxSupplied * maxSupplied, api.OK},
	} {
		amounts, potentials, cost, e := flow.MinCost(x.n, x.supply)
		if cost != x.cost || e != x.e || e != api.OK && (amounts != nil || potentials != nil) {
			t.Error(x.name, amounts, potentials, cost, e)
		}
		if e != api.OK {
			continue
		}
		if !fits(x.n, amounts) || len(potentials) != x.n.Nodes || costOf(x.n, amounts) != cost || len(x.supply) > 0 && !slices.Equal(surpluses(x.n, amounts), x.supply) {
			t.Error(x.name, amounts, potentials, cost)
		}
	}
}

// wrongSupplies are supplies with errors.
type wrongSupplies struct {
	name   string
	n      api.Net
	supply []int
	e      int
}

func wrong() []wrongSupplies {
	wide, dear := of(2, [4]int{0, 1, 1, 1}, [4]int{0, 1, maxSupplied + 1, 0}), of(2, [4]int{0, 1, 1, 1}, [4]int{0, 1, 0, maxSupplied + 1})
	return []wrongSupplies{
		{"none", example, nil, api.ErrForm},
		{"one is missing", example, []int{3, 0, -3}, api.ErrForm},
		{"one too many", example, []int{3, 0, 0, -3, 0}, api.ErrForm},
		{"one without a node", api.Net{}, []int{0}, api.ErrForm},
		{"form before limits", wide, []int{most}, api.ErrForm},
		{"a capacity", wide, []int{0, 0}, api.ErrLimit},
		{"a cost", dear, []int{0, 0}, api.ErrLimit},
		{"limits before sums", wide, []int{1, 0}, api.ErrLimit},
		{"supplies", example, []int{maxSupplied + 1, 0, 0, -maxSupplied - 1}, api.ErrLimit},
		{"taken", example, []int{-maxSupplied - 1, 0, 1, maxSupplied}, api.ErrLimit},
		{"the last supply", example, []int{-maxSupplied, 0, -1, maxSupplied + 1}, api.ErrLimit},
		{"supplies before sums", example, []int{0, 0, 0, maxSupplied + 1}, api.ErrLimit},
		{"a sum that is an error, then a limit", example, []int{1, 0, 0, maxSupplied + 1}, api.ErrLimit},
		{"huge ones that add up to 0", example, []int{least, least, 0, 0}, api.ErrLimit},
		{"the greatest ints", example, []int{most, -most, 0, 0}, api.ErrLimit},
		{"too much", example, []int{3, 0, 0, -2}, api.ErrSum},
		{"too little", example, []int{3, 0, 0, -4}, api.ErrSum},
		{"sums before what is possible", api.Net{Nodes: 2}, []int{2, -1}, api.ErrSum},
	}
}

// TestP8_4_Errors finds the errors of supplies in all functions that take them, before their own.
func TestP8_4_Errors(t *testing.T) {
	for _, x := range wrong() {
		amounts, potentials, cost, e := flow.MinCost(x.n, x.supply)
		if e != x.e || amounts != nil || potentials != nil || cost != 0 {
			t.Error("MinCost", x.name, e)
		}
		if e := flow.VerifyCost(x.n, x.supply, []int{1}, nil, -1); e != x.e {
			t.Error("VerifyCost", x.name, e)
		}
		if set, e := flow.Shortage(x.n, x.supply); e != x.e || set != nil {
			t.Error("Shortage", x.name, e)
		}
		if e := flow.VerifyShortage(x.n, x.supply, []bool{not, not, not}); e != x.e {
			t.Error("VerifyShortage", x.name, e)
		}
	}
}

// TestP8_4_All compares with the best one of all flows.
func TestP8_4_All(t *testing.T) {
	r := rand.New(rand.NewPCG(8, 4))
	possible, impossible := 0, 0
	for range 4000 {
		n := random(r, 1+r.IntN(5), r.IntN(8), 1+r.IntN(3), []int{0, 1, 3, 100}[r.IntN(4)])
		supply := supplies(r, n)
		want := wantCost(n, supply)
		amounts, potentials, cost, e := flow.MinCost(n, supply)
		if want < 0 {
			impossible++
			if e != api.ErrInfeasible || amounts != nil || potentials != nil || cost != 0 {
				t.Fatal(n, supply, amounts, potentials, cost, e)
			}
			continue
		}
		possible++
		if e != api.OK || cost != want || costOf(n, amounts) != cost || !fits(n, amounts) || !slices.Equal(surpluses(n, amounts), supply) {
			t.Fatal(n, supply, amounts, potentials, cost, e, want)
		}
		if !proves(n, amounts, potentials) {
			t.Fatal(n, supply, amounts, potentials)
		}
	}
	if possible < 1000 || impossible < 300 {
		t.Error("only", possible, impossible)
	}
}

// proves reports whether potentials prove that a flow costs least.
func proves(n api.Net, amounts, potentials []int) bool {
	for i, l := range n.Links {
		reduced := l.Cost + potentials[l.From] - potentials[l.To]
		if amounts[i] < l.Cap && reduced < 0 || amounts[i] > 0 && reduced > 0 {
			return false
		}
	}
	return true
}

// TestP8_4_Large carries supplies through networks as large as they may be: the potentials prove that the flows cost least.
func TestP8_4_Large(t *testing.T) {
	r := rand.New(rand.NewPCG(8, 44))
	possible := 0
	for range 60 {
		n := random(r, 8+r.IntN(api.MaxNodes-7), 100+r.IntN(157), []int{1, 10, 5000}[r.IntN(3)], []int{0, 5, maxSupplied}[r.IntN(3)])
		supply := supplies(r, n)
		amounts, potentials, cost, e := flow.MinCost(n, supply)
		if e == api.ErrInfeasible {
			continue
		}
		possible++
		if e != api.OK || costOf(n, amounts) != cost || !fits(n, amounts) || !slices.Equal(surpluses(n, amounts), supply) || !proves(n, amounts, potentials) {
			t.Fatal(n, supply, amounts, potentials, cost, e)
		}
		if slices.Max(potentials) > maxPotential || slices.Min(potentials) < -maxPotential {
			t.Fatal(potentials)
		}
	}
	if possible < 30 {
		t.Error("only", possible)
	}
}

// TestP8_4_Long has the longest and dearest ways: nothing is lost where supplies earn little against what they cost.
func TestP8_4_Long(t *testing.T) {
	n := api.Net{Nodes: api.MaxNodes}
	for v := range api.MaxNodes - 1 {
		n.Links = append(n.Links, api.Link{From: v, To: v + 1, Cap: maxSupplied, Cost: maxSupplied})
	}
	supply := make([]int, api.MaxNodes)
	supply[0], supply[api.MaxNodes-1] = maxSupplied, -maxSupplied
	amounts, potentials, cost, e := flow.MinCost(n, supply)
	if cost != 63*maxSupplied*maxSupplied || e != api.OK || flow.VerifyCost(n, supply, amounts, potentials, cost) != api.OK {
		t.Error(cost, e)
	}
	wide := api.Net{Nodes: 2, Links: slices.Repeat([]api.Link{{From: 0, To: 1, Cap: 1, Cost: maxSupplied}}, api.MaxArcs)}
	amounts, potentials, cost, e = flow.MinCost(wide, []int{api.MaxArcs, -api.MaxArcs})
	if cost != api.MaxArcs*maxSupplied || e != api.OK || flow.VerifyCost(wide, []int{api.MaxArcs, -api.MaxArcs}, amounts, potentials, cost) != api.OK {
		t.Error(cost, e)
	}
}

func TestP8_5_VerifyCost(t *testing.T) {
	supply, good, potentials := []int{3, 0, 0, -3}, []int{2, 1, 2, 0, 3}, []int{0, 1, 4, 5}
	for _, x := range []struct {
		name       string
		n          api.Net
		supply     []int
		flow       []int
		potentials []int
		cost, e    int
	}{
		{"of the chapter", example, supply, good, potentials, 11, api.OK},
		{"moved potentials", example, supply, good, []int{-7, -6, -3, -2}, 11, api.OK},
		{"another potential", example, supply, good, []int{0, 1, 4, 7}, 11, api.OK},
		{"the greatest potentials", example, supply, good, []int{maxPotential - 5, maxPotential - 4, maxPotential - 1, maxPotential}, 11, api.OK},
		{"the least potentials", example, supply, good, []int{-maxPotential, 1 - maxPotential, 4 - maxPotential, 5 - maxPotential}, 11, api.OK},
		{"nothing", example, make([]int, 4), make([]int, 5), make([]int, 4), 0, api.OK},
		{"no node", api.Net{}, nil, nil, nil, 0, api.OK},
		{"one node", api.Net{Nodes: 1}, []int{0}, nil, []int{9}, 0, api.OK},
		{"no cost", of(1, [4]int{0, 0, 4, 0}), []int{0}, []int{3}, []int{9}, 0, api.OK},
		{"an unused link may have any rise up to its cost", of(2, [4]int{0, 1, 4, 5}), []int{0, 0}, []int{0}, []int{0, 5}, 0, api.OK},
		{"also a great fall", of(2, [4]int{0, 1, 4, 5}), []int{0, 0}, []int{0}, []int{0, -maxPotential}, 0, api.OK},
		{"a full link may have a great rise", of(2, [4]int{0, 1, 4, 5}), []int{4, -4}, []int{4}, []int{-maxPotential, maxPotential}, 20, api.OK},
		{"one without a capacity has none", of(2, [4]int{0, 1, 0, 5}), []int{0, 0}, []int{0}, []int{-99, 99}, 0, api.OK},
		{"no flow", example, supply, nil, potentials, 11, api.ErrForm},
		{"an amount is missing", example, supply, good[:4], potentials, 11, api.ErrForm},
		{"an amount too many", example, supply, []int{2, 1, 2, 0, 3, 0}, potentials, 11, api.ErrForm},
		{"no potentials", example, supply, good, nil, 11, api.ErrForm},
		{"a potential is missing", example, supply, good, potentials[:3], 11, api.ErrForm},
		{"a potential too many", example, supply, good, []int{0, 1, 4, 5, 6}, 11, api.ErrForm},
		{"form before proof", example, supply, []int{9, 9, 9, 9, 9}, nil, 12, api.ErrForm},
		{"below 0", of(2, [4]int{0, 1, 4, 1}, [4]int{0, 1, 4, 1}), []int{3, -3}, []int{4, -1}, []int{0, 1}, 3, api.ErrProof},
		{"above the capacity", of(2, [4]int{0, 1, 4, 1}), []int{5, -5}, []int{5}, []int{0, 1}, 5, api.ErrProof},
		{"the greatest int", of(2, [4]int{0, 1, 4, 0}), []int{5, -5}, []int{most}, []int{0, 0}, 0, api.ErrProof},
		{"the least int", of(2, [4]int{0, 1, 4, 0}), []int{5, -5}, []int{least}, []int{0, 0}, 0, api.ErrProof},
		{"other surpluses", example, supply, []int{2, 0, 2, 0, 2}, potentials, 7, api.ErrProof},
		{"surpluses of the opposite sign", of(2, [4]int{0, 1, 4, 1}, [4]int{1, 0, 4, 1}), []int{3, -3}, []int{0, 3}, []int{0, -1}, 3, api.ErrProof},
		{"another cost", example, supply, good, potentials, 10, api.ErrProof},
		{"a higher cost", example, supply, good, potentials, 12, api.ErrProof},
		{"a dearer flow", example, supply, []int{2, 1, 1, 1, 2}, potentials, 15, api.ErrProof},
		{"a dearer flow with other potentials", example, supply, []int{2, 1, 1, 1, 2}, []int{0, 1, 4, 7}, 15, api.ErrProof},
		{"too high", of(2, [4]int{0, 1, 4, 5}), []int{2, -2}, []int{2}, []int{0, 6}, 10, api.ErrProof},
		{"too low", of(2, [4]int{0, 1, 4, 5}), []int{2, -2}, []int{2}, []int{0, 4}, 10, api.ErrProof},
		{"too high for an unused link", of(2, [4]int{0, 1, 4, 5}), []int{0, 0}, []int{0}, []int{0, 6}, 0, api.ErrProof},
		{"too low for a full link", of(2, [4]int{0, 1, 4, 5}), []int{4, -4}, []int{4}, []int{0, 4}, 20, api.ErrProof},
		{"a ring that costs", of(2, [4]int{0, 1, 4, 5}, [4]int{1, 0, 4, 5}), []int{0, 0}, []int{1, 1}, []int{0, 5}, 10, api.ErrProof},
		{"a node to itself that costs", of(1, [4]int{0, 0, 4, 1}), []int{0}, []int{4}, []int{0}, 4, api.ErrProof},
		{"potentials above the limit", api.Net{Nodes: 2}, []int{0, 0}, nil, []int{0, maxPotential + 1}, 0, api.ErrProof},
		{"potentials below the limit", api.Net{Nodes: 2}, []int{0, 0}, nil, []int{-maxPotential - 1, 0}, 0, api.ErrProof},
		{"huge potentials do not wrap around", of(2, [4]int{0, 1, 4, 5}), []int{0, 0}, []int{0}, []int{least, most}, 0, api.ErrProof},
		{"nor does the least one", of(2, [4]int{0, 1, 4, 5}), []int{0, 0}, []int{0}, []int{1, least}, 0, api.ErrProof},
	} {
		if e := flow.VerifyCost(x.n, x.supply, x.flow, x.potentials, x.cost); e != x.e {
			t.Error(x.name, e)
		}
	}
}

// TestP8_5_All tries all lists of small numbers: exactly the flows of least cost have potentials that are accepted.
func TestP8_5_All(t *testing.T) {
	r := rand.New(rand.NewPCG(8, 5))
	accepted, refused := 0, 0
	for range 120 {
		n := random(r, 1+r.IntN(3), 1+r.IntN(3), 2, 2)
		supply := supplies(r, n)
		cheapest := wantCost(n, supply)
		lists(-1, slices.Repeat([]int{3}, len(n.Links)), func(amounts []int) {
			proper := fits(n, amounts) && slices.Equal(surpluses(n, amounts), supply)
			cost, proofs := costOf(n, amounts), 0
			// Least costs of ways of up to two links lie in this range.
			lists(0, slices.Repeat([]int{4}, n.Nodes), func(potentials []int) {
				e := flow.VerifyCost(n, supply, amounts, potentials, cost)
				right := proper && proves(n, amounts, potentials)
				if right != (e == api.OK) || !right && e != api.ErrProof || flow.VerifyCost(n, supply, amounts, potentials, cost+1) != api.ErrProof {
					t.Fatal(n, supply, amounts, potentials, cost, e)
				}
				if right {
					proofs++
				}
			})
			if best := proper && cost == cheapest; best != (proofs > 0) {
				t.Fatal(n, supply, amounts, best, proofs)
			}
			if proofs > 0 {
				accepted++
			} else if proper {
				refused++
			}
		})
	}
	if accepted < 60 || refused < 10 {
		t.Error("only", accepted, refused)
	}
}

func TestP8_6_Shortage(t *testing.T) {
	for _, x := range []struct {
		name   string
		n      api.Net
		supply []int
		e      int
	}{
		{"of the chapter", example, []int{5, 0, 0, -5}, api.OK},
		{"of the chapter, possible", example, []int{3, 0, 0, -3}, api.ErrNone},
		{"all that can be carried", example, []int{4, 0, 0, -4}, api.ErrNone},
		{"nothing", example, []int{0, 0, 0, 0}, api.ErrNone},
		{"no node", api.Net{}, nil, api.ErrNone},
		{"no link", api.Net{Nodes: 3}, []int{0, 1, -1}, api.OK},
		{"backward", of(2, [4]int{1, 0, 5, 1}), []int{1, -1}, api.OK},
		{"one of two is short", of(4, [4]int{0, 1, 5, 1}, [4]int{2, 3, 2, 1}), []int{5, -5, 3, -3}, api.OK},
		{"the limits", of(2, [4]int{0, 1, maxSupplied - 1, 0}), []int{maxSupplied, -maxSupplied}, api.OK},
	} {
		set, e := flow.Shortage(x.n, x.supply)
		if e != x.e || e != api.OK && set != nil || e == api.OK && !isShort(x.n, x.supply, set) {
			t.Error(x.name, set, e)
		}
	}
}

// isShort reports whether nodes supply more than can leave them.
func isShort(n api.Net, supply []int, set []bool) bool {
	sum := 0
	for v := range supply {
		if set[v] {
			sum += supply[v]
		}
	}
	return sum > capacity(n, set)
}

func TestP8_6_VerifyShortage(t *testing.T) {
	supply, narrow := []int{5, 0, 0, -5}, of(3, [4]int{0, 1, 2, 0}, [4]int{1, 2, 3, 0}, [4]int{2, 0, 9, 0})
	for _, x := range []struct {
		name   string
		n      api.Net
		supply []int
		set    []bool
		e      int
	}{
		{"of the chapter", example, supply, []bool{yes, yes, yes, not}, api.OK},
		{"exactly as much", example, []int{4, 0, 0, -4}, []bool{yes, yes, yes, not}, api.ErrProof},
		{"no shortage there", example, supply, []bool{yes, not, not, not}, api.ErrProof},
		{"no node of it", example, supply, []bool{not, not, not, not}, api.ErrProof},
		{"all nodes", example, supply, []bool{yes, yes, yes, yes}, api.ErrProof},
		{"those that take", example, supply, []bool{not, not, not, yes}, api.ErrProof},
		{"links into the set do not count", narrow, []int{3, 0, -3}, []bool{yes, not, not}, api.OK},
		{"what the set takes counts", narrow, []int{6, -2, -4}, []bool{yes, yes, not}, api.OK},
		{"as much as it takes", narrow, []int{6, -3, -3}, []bool{yes, yes, not}, api.ErrProof},
		{"no node at all", api.Net{}, nil, nil, api.ErrProof},
		{"no set", example, supply, nil, api.ErrForm},
		{"an element is missing", example, supply, []bool{yes, yes, yes}, api.ErrForm},
		{"an element too many", example, supply, []bool{yes, yes, yes, not, not}, api.ErrForm},
		{"form before proof", example, make([]int, 4), []bool{not}, api.ErrForm},
	} {
		if e := flow.VerifyShortage(x.n, x.supply, x.set); e != x.e {
			t.Error(x.name, e)
		}
	}
}

// TestP8_6_All finds that there is a shortage exactly if no flow has the supplies, and that only sets that are short are accepted.
func TestP8_6_All(t *testing.T) {
	r := rand.New(rand.NewPCG(8, 6))
	short := 0
	for range 3000 {
		n := random(r, 1+r.IntN(5), r.IntN(7), 1+r.IntN(3), 3)
		supply := supplies(r, n)
		possible := wantCost(n, supply) >= 0
		set, e := flow.Shortage(n, supply)
		if possible && (e != api.ErrNone || set != nil) || !possible && (e != api.OK || !isShort(n, supply, set)) {
			t.Fatal(n, supply, possible, set, e)
		}
		proofs := 0
		sets(n.Nodes, func(set []bool) {
			e := flow.VerifyShortage(n, supply, set)
			right := isShort(n, supply, set)
			if right != (e == api.OK) || !right && e != api.ErrProof {
				t.Fatal(n, supply, set, e)
			}
			if right {
				proofs++
			}
		})
		if possible != (proofs == 0) {
			t.Fatal(n, supply, possible, proofs)
		}
		if !possible {
			short++
		}
	}
	if short < 300 {
		t.Error("only", short)
	}
}

// TestP8_7_Accepted finds that what is returned is accepted, in networks of all sizes.
func TestP8_7_Accepted(t *testing.T) {
	r := rand.New(rand.NewPCG(8, 7))
	for range 400 {
		n := random(r, 2+r.IntN(api.MaxNodes-1), r.IntN(api.MaxArcs+1), []int{1, 9, maxSupplied}[r.IntN(3)], []int{0, 9, maxSupplied}[r.IntN(3)])
		amounts, cut, value, _ := flow.Max(n, 1, 0)
		if e := flow.Verify(n, 1, 0, amounts, cut, value); e != api.OK {
			t.Fatal(n, e)
		}
		supply := make([]int, n.Nodes)
		supply[1], supply[0] = min(value, maxSupplied), -min(value, maxSupplied)
		amounts, potentials, cost, e := flow.MinCost(n, supply)
		if e != api.OK || flow.VerifyCost(n, supply, amounts, potentials, cost) != api.OK {
			t.Fatal(n, supply, e)
		}
		if _, e := flow.Shortage(n, supply); e != api.ErrNone {
			t.Fatal(n, supply, e)
		}
		if value >= maxSupplied {
			continue
		}
		supply[1]++
		supply[0]--
		set, e := flow.Shortage(n, supply)
		if e != api.OK || flow.VerifyShortage(n, supply, set) != api.OK {
			t.Fatal(n, supply, e)
		}
		if _, _, _, e := flow.MinCost(n, supply); e != api.ErrInfeasible {
			t.Fatal(n, supply, e)
		}
	}
}

// TestP8_7_Duality compares all flows with all cuts of small networks.
func TestP8_7_Duality(t *testing.T) {
	r := rand.New(rand.NewPCG(8, 77))
	for range 300 {
		n := random(r, 2+r.IntN(3), 1+r.IntN(6), 2, 0)
		_, _, value, _ := flow.Max(n, 0, 1)
		narrowest := most
		sets(n.Nodes, func(cut []bool) {
			if cut[0] && !cut[1] {
				narrowest = min(narrowest, capacity(n, cut))
			}
		})
		if value != narrowest {
			t.Fatal(n, value, narrowest)
		}
		flows(n, func(amounts []int) {
			if leads(n, amounts, 0, 1) && surpluses(n, amounts)[0] > narrowest {
				t.Fatal(n, amounts, narrowest)
			}
		})
	}
}

// TestP8_7_OneMore makes each capacity greater by 1.
func TestP8_7_OneMore(t *testing.T) {
	r := rand.New(rand.NewPCG(8, 78))
	for range 200 {
		n := random(r, 2+r.IntN(8), 1+r.IntN(20), 3, 0)
		_, _, value, _ := flow.Max(n, 0, 1)
		for i := range n.Links {
			n.Links[i].Cap++
			if _, _, more, e := flow.Max(n, 0, 1); more != value && more != value+1 || e != api.OK {
				t.Fatal(n, i, value, more, e)
			}
			n.Links[i].Cap--
		}
	}
}
