package landbook

import (
	"slices"

	"coupe/api"
	"coupe/cadastre"
)

// Points of a chain.
const (
	minChain = 2
	maxChain = 10
)

// Merge returns the map in which two stands are one, and the parents of its stands: the error of cadastre.Check, ErrRange, ErrArg.
func Merge(m api.Map, a, b int) (api.Map, [][]int, int) {
	if e := cadastre.Check(m); e != api.OK {
		return api.Map{}, nil, e
	}
	if !isStand(m, a) || !isStand(m, b) {
		return api.Map{}, nil, api.ErrRange
	}
	if a == b {
		return api.Map{}, nil, api.ErrArg
	}
	low, high := min(a, b), max(a, b)
	parents := unchanged(m)
	parents[low] = []int{low, high}
	return unite(m, low, high), slices.Delete(parents, high, high+1), api.OK
}

// isStand reports whether a map has a stand of this number.
func isStand(m api.Map, number int) bool {
	return within(number, 0, m.Stands-1)
}

// unchanged returns the parents of stands that are what they were.
func unchanged(m api.Map) [][]int {
	var parents [][]int
	for stand := range m.Stands {
		parents = append(parents, []int{stand})
	}
	return parents
}

// unite returns the map in which the greater one of two stands belongs to the lower one.
func unite(m api.Map, low, high int) api.Map {
	renumber := func(region int) int {
		switch {
		case region == high:
			return low
		case region > high:
			return region - 1
		}
		return region
	}
	united := api.Map{Points: slices.Clone(m.Points), Stands: m.Stands - 1}
	for _, e := range m.Edges {
		e.Left, e.Right = renumber(e.Left), renumber(e.Right)
		if e.Left != e.Right {
			united.Edges = append(united.Edges, e)
		}
	}
	return united
}

// Split returns the map in which a stand is divided by a chain of points, and the parents of its stands: the error of cadastre.Check, ErrRange, ErrForm, ErrLimit, those of cadastre.Check for the result.
func Split(m api.Map, stand int, chain []api.Point) (api.Map, [][]int, int) {
	if e := cadastre.Check(m); e != api.OK {
		return api.Map{}, nil, e
	}
	if !isStand(m, stand) {
		return api.Map{}, nil, api.ErrRange
	}
	edges, e := rightEdges(m, stand, chain)
	if e != api.OK {
		return api.Map{}, nil, e
	}
	// Too many points or edges are found by the check of the result, with the same error.
	if m.Stands == api.MaxStands {
		return api.Map{}, nil, api.ErrLimit
	}
	divided := divide(m, stand, chain, edges)
	if e := cadastre.Check(divided); e != api.OK {
		return api.Map{}, nil, e
	}
	return divided, append(unchanged(m), []int{stand}), api.OK
}

// rightEdges returns the edges of the boundary of a stand on the right of a chain: ErrForm.
func rightEdges(m api.Map, stand int, chain []api.Point) ([]int, int) {
	if !within(len(chain), minChain, maxChain) || meets(m, chain[1:len(chain)-1]) {
		return nil, api.ErrForm
	}
	edges, points := boundary(m, stand)
	at, end := slices.Index(points, chain[0]), slices.Index(points, chain[len(chain)-1])
	if at < 0 || end < 0 || at == end {
		return nil, api.ErrForm
	}
	var right []int
	for ; at != end; at = (at + 1) % len(edges) {
		right = append(right, edges[at])
	}
	return right, api.OK
}

// meets reports whether one of some points is a point of a map, or an earlier one of them.
func meets(m api.Map, inner []api.Point) bool {
	for i, p := range inner {
		if slices.Contains(m.Points, p) || slices.Contains(inner[:i], p) {
			return true
		}
	}
	return false
}

// boundary returns the edges around a stand, run through with the stand on the left, and the points at which they begin; none if the boundary is not simple.
func boundary(m api.Map, stand int) (edges []int, points []api.Point) {
	rings, _ := cadastre.Rings(m)
	rings = slices.DeleteFunc(rings, func(ring []int) bool {
		_, left := directed(m, ring[0])
		return left != stand
	})
	if len(rings) > 1 {
		return nil, nil
	}
	for _, number := range rings[0] { // The stand has an area, and so a ring.
		from, _ := directed(m, number)
		if slices.Contains(points, from) {
			return nil, nil
		}
		edges, points = append(edges, number/2), append(points, from)
	}
	return edges, points
}

// directed returns the point at which an edge begins, and the region on its left, in a direction numbered as in the rings of cadastre.
func directed(m api.Map, number int) (from api.Point, left int) {
	e := m.Edges[number/2]
	if number%2 == 0 {
		return m.Points[e.A], e.Left
	}
	return m.Points[e.B], e.Right
}

// divide returns the map in which edges of the boundary of a stand belong to a new stand, on the right of a chain.
func divide(m api.Map, stand int, chain []api.Point, right []int) api.Map {
	added := m.Stands
	divided := api.Map{
		Points: slices.Concat(m.Points, chain[1:len(chain)-1]),
		Edges:  slices.Clone(m.Edges),
		Stands: m.Stands + 1,
	}
	for _, number := range right {
		if e := &divided.Edges[number]; e.Left == stand {
			e.Left = added
		} else {
			e.Right = added
		}
	}
	for i := 1; i < len(chain); i++ {
		a, b := slices.Index(divided.Points, chain[i-1]), slices.Index(divided.Points, chain[i])
		divided.Edges = append(divided.Edges, api.Edge{A: a, B: b, Left: stand, Right: added})
	}
	return divided
}
