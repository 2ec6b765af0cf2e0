package flow

import (
	"math/bits"
	"slices"

	"coupe/api"
)

const far = 1 << 60 // the cost of a node to which no way is known

// step is a step of a residual way: forward over a link, where its amount can grow, or back over it, where it can shrink.
type step struct {
	from int
	to   int
	link int
	sign int // of the change of the amount
	room int // by how much the amount can change
	cost int // of a unit
}

// residual returns the steps that a flow leaves.
func residual(n api.Net, flow []int) []step {
	var steps []step
	for i, l := range n.Links {
		if flow[i] < l.Cap {
			steps = append(steps, step{from: l.From, to: l.To, link: i, sign: 1, room: l.Cap - flow[i], cost: l.Cost})
		}
		if flow[i] > 0 {
			steps = append(steps, step{from: l.To, to: l.From, link: i, sign: -1, room: flow[i], cost: -l.Cost})
		}
	}
	return steps
}

// reach returns the last steps of ways with the fewest steps from a node to those to which ways lead, the node itself among them. That the ways are so short bounds how many of them greatest needs.
func reach(steps []step, from int) map[int]step {
	leaving := map[int][]step{}
	for _, s := range steps {
		leaving[s.from] = append(leaving[s.from], s)
	}
	last := map[int]step{from: {}}
	for queue := []int{from}; len(queue) > 0; queue = queue[1:] {
		for _, s := range leaving[queue[0]] {
			if _, known := last[s.to]; !known {
				last[s.to] = s
				queue = append(queue, s.to)
			}
		}
	}
	return last
}

// reached reports for each node of a network whether a way leads to it.
func reached(n api.Net, last map[int]step) []bool {
	side := make([]bool, n.Nodes)
	for v := range side {
		_, side[v] = last[v]
	}
	return side
}

// wayTo returns the steps of a way, going back from its end.
func wayTo(last map[int]step, from, to int) []step {
	var way []step
	for v := to; v != from; v = last[v].from {
		way = append(way, last[v])
	}
	return way
}

// greatest returns a greatest flow, and the last steps of residual ways from its beginning.
func greatest(n api.Net, from, to int) ([]int, map[int]step) {
	flow := make([]int, len(n.Links))
	for {
		last := reach(residual(n, flow), from)
		if _, more := last[to]; !more {
			return flow, last
		}
		way := wayTo(last, from, to)
		amount := way[0].room
		for _, s := range way {
			amount = min(amount, s.room)
		}
		for _, s := range way {
			flow[s.link] += s.sign * amount
		}
	}
}

// joined adds a node from which all that is supplied comes, and behind it one to which all that is taken goes, and returns how much is supplied.
func joined(n api.Net, supply []int) (api.Net, int) {
	source, sink := n.Nodes, n.Nodes+1
	links := slices.Clone(n.Links)
	total := 0
	for v, s := range supply {
		if s > 0 {
			links = append(links, api.Link{From: source, To: v, Cap: s})
			total += s
		} else if s < 0 {
			links = append(links, api.Link{From: v, To: sink, Cap: -s})
		}
	}
	return api.Net{Nodes: n.Nodes + 2, Links: links}, total
}

// cheapestRound returns a flow of least cost in which all nodes have the surplus 0; costs may be below 0. It reads the capacities bit by bit, since it would need exponentially many ways if it read them whole: the best flow for some capacities, doubled, is best for those capacities doubled, and each bit then adds a unit.
func cheapestRound(n api.Net) []int {
	flow := make([]int, len(n.Links))
	now := api.Net{Nodes: n.Nodes, Links: slices.Clone(n.Links)}
	most := 0
	for i, l := range n.Links {
		now.Links[i].Cap = 0
		most = max(most, l.Cap)
	}
	for bit := bits.Len(uint(most)) - 1; bit >= 0; bit-- {
		for i := range flow {
			flow[i] *= 2
			now.Links[i].Cap *= 2
		}
		for i, l := range n.Links {
			if l.Cap>>bit&1 == 1 {
				widen(now, flow, i)
			}
		}
	}
	return flow
}

// widen makes the capacity of a link greater by 1, and keeps the cost of the flow least: if the link was full, it may pay to send a unit around over it.
func widen(n api.Net, flow []int, link int) {
	l := n.Links[link]
	if flow[link] == l.Cap {
		costs := slices.Repeat([]int{far}, n.Nodes)
		costs[l.To] = 0
		last := settle(costs, residual(n, flow))
		if costs[l.From]+l.Cost < 0 {
			for _, s := range wayTo(last, l.To, l.From) {
				flow[s.link] += s.sign
			}
			flow[link]++
		}
	}
	n.Links[link].Cap++
}

// settle lowers the costs of nodes until no step leads to a node for less, and returns the last steps of the ways that lowered them. No flow of least cost leaves steps that lead around for less than 0, so this ends.
func settle(costs []int, steps []step) map[int]step {
	last := map[int]step{}
	for changed := true; changed; {
		changed = false
		for _, s := range steps {
			if costs[s.from] != far && costs[s.from]+s.cost < costs[s.to] {
				costs[s.to] = costs[s.from] + s.cost
				last[s.to] = s
				changed = true
			}
		}
	}
	return last
}

// potentials returns for each node the least cost of a residual way that ends there, which proves that a flow costs least.
func potentials(n api.Net, flow []int) []int {
	costs := make([]int, n.Nodes)
	settle(costs, residual(n, flow))
	return costs
}
