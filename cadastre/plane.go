package cadastre

import (
	"cmp"
	"slices"

	"coupe/api"
	"coupe/geometry"
)

// arrow is a directed edge.
type arrow struct {
	from, to    api.Point
	left, right int
}

// plane contains the directed edges by their numbers and, for each point, the numbers of those that leave it, in the order of their directions.
type plane struct {
	arrows []arrow
	around map[api.Point][]int
}

// planeOf returns the directed edges of a map whose points and edges have no error by themselves.
func planeOf(m api.Map) plane {
	var l []arrow
	for _, e := range m.Edges {
		a, b := m.Points[e.A], m.Points[e.B]
		l = append(l, arrow{a, b, e.Left, e.Right}, arrow{b, a, e.Right, e.Left})
	}
	around := map[api.Point][]int{}
	for _, p := range m.Points {
		around[p] = leaving(l, p)
	}
	return plane{l, around}
}

// leaving returns the numbers of the directed edges that leave a point, in the order of their directions.
func leaving(l []arrow, p api.Point) []int {
	var numbers []int
	var ends []api.Point
	for i, a := range l {
		if a.from == p {
			numbers, ends = append(numbers, i), append(ends, a.to)
		}
	}
	order, _ := geometry.Order(p, ends)
	for i, place := range order {
		order[i] = numbers[place]
	}
	return order
}

// back returns the number of the directed edge that leads the other way.
func back(number int) int {
	return number ^ 1
}

// next returns the directed edge that follows one in its ring.
func (p plane) next(number int) int {
	star := p.around[p.arrows[number].to]
	i := slices.Index(star, back(number))
	return star[(i+len(star)-1)%len(star)]
}

// rings returns the boundary rings.
func (p plane) rings() [][]int {
	var rings [][]int
start:
	for first := range p.arrows {
		ring := []int{first}
		for number := p.next(first); number != first; number = p.next(number) {
			if number < first {
				continue start // This ring is there already: it begins with a lower one.
			}
			ring = append(ring, number)
		}
		rings = append(rings, ring)
	}
	return rings
}

// outerRings returns the rings that have their region inside: those of positive area.
func (p plane) outerRings() [][]int {
	return slices.DeleteFunc(p.rings(), func(ring []int) bool {
		area2 := 0
		for _, number := range ring {
			area2 += p.arrows[number].area2()
		}
		return area2 <= 0
	})
}

// area2 returns twice the area that a directed edge adds to that on its left.
func (a arrow) area2() int {
	triangle, _ := geometry.Cross(api.Point{}, a.from, a.to)
	return triangle
}

// area2 returns twice the area of a region.
func (p plane) area2(region int) int {
	total := 0
	for _, a := range p.arrows {
		if a.left == region {
			total += a.area2()
		}
	}
	return total
}

// hasAll reports whether all stands have a positive area.
func (p plane) hasAll(stands int) bool {
	for stand := range stands {
		if p.area2(stand) <= 0 {
			return false
		}
	}
	return true
}

// meetsInEnds reports whether edges have no common points but one that is an end of both.
func (p plane) meetsInEnds() bool {
	for e := range len(p.arrows) / 2 {
		for f := range e {
			if !p.arrows[2*e].meetsInEnd(p.arrows[2*f]) {
				return false
			}
		}
	}
	return true
}

// meetsInEnd reports whether two edges have no common point but one that is an end of both.
func (a arrow) meetsInEnd(b arrow) bool {
	switch relation, _ := geometry.Meet(a.from, a.to, b.from, b.to); relation {
	case api.SegmentsApart:
		return true
	case api.SegmentsTouch:
		return a.endsIn(b.from) || a.endsIn(b.to)
	}
	return false
}

// endsIn reports whether a point is an end of an edge.
func (a arrow) endsIn(p api.Point) bool {
	return a.from == p || a.to == p
}

// agreesAround reports whether around each point the same region lies between neighbouring edges: what is on the left of one of them is on the left of the way back along the next one, which the first one follows in a ring.
func (p plane) agreesAround() bool {
	for i, a := range p.arrows {
		if a.left != p.arrows[p.next(i)].left {
			return false
		}
	}
	return true
}

// agreesBefore reports whether the least points of all connected parts have the region before them that the other parts leave there.
func (p plane) agreesBefore(least []api.Point) bool {
	return !slices.ContainsFunc(least, func(q api.Point) bool { return p.before(q) != p.below(q) })
}

// before returns the region before the least point of a connected part, to the left of which no edge leads: it lies between the edges that lead upwards and those that lead downwards.
func (p plane) before(q api.Point) int {
	star := p.around[q]
	region := p.arrows[star[0]].right
	for _, number := range star {
		if a := p.arrows[number]; a.to.Y >= q.Y {
			region = a.left
		}
	}
	return region
}

// below returns the region below and before a point.
func (p plane) below(q api.Point) int {
	var lower []arrow
	for _, a := range p.arrows {
		if a.passesBelow(q) {
			lower = append(lower, a)
		}
	}
	if len(lower) == 0 {
		return outside
	}
	return slices.MaxFunc(lower, arrow.compareHeight).left
}

// passesBelow reports whether a directed edge leads to the right and passes below a point, or just before it.
func (a arrow) passesBelow(q api.Point) bool {
	return a.from.X < q.X && q.X <= a.to.X && turn(a.from, a.to, q) > 0
}

// compareHeight compares the heights of two directed edges that lead to the right and pass below the same point. They meet in no point but a common end, so that the one that begins behind the other is above or below it all along; where both begin together, their other ends tell.
func (a arrow) compareHeight(b arrow) int {
	if a.from.X < b.from.X {
		return -b.compareHeight(a)
	}
	return cmp.Or(turn(b.from, b.to, a.from), turn(b.from, b.to, a.to))
}

// turn returns the direction in which valid points turn: 1 to the left, -1 to the right, 0 if they are on a line.
func turn(a, b, c api.Point) int {
	sign, _ := geometry.Orient(a, b, c)
	return sign
}
