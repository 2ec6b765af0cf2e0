package cadastre_test

import (
	"cmp"
	"math"
	"math/big"
	"math/rand/v2"
	"slices"
	"testing"

	"coupe/api"
	"coupe/cadastre"
)

// cross returns the cross product of the ways from a to b and from a to c.
func cross(a, b, c api.Point) int {
	return (b.X-a.X)*(c.Y-a.Y) - (b.Y-a.Y)*(c.X-a.X)
}

// onLine reports whether a point is on a segment.
func onLine(q, a, b api.Point) bool {
	return cross(a, b, q) == 0 && (a.X-q.X)*(b.X-q.X)+(a.Y-q.Y)*(b.Y-q.Y) <= 0
}

// tile is a counterclockwise triangle that belongs to a region.
type tile struct {
	corners [3]api.Point
	region  int
}

// holds reports whether a point is inside of a tile or on its boundary.
func (x tile) holds(q api.Point) bool {
	a, b, c := x.corners[0], x.corners[1], x.corners[2]
	return cross(a, b, q) >= 0 && cross(b, c, q) >= 0 && cross(c, a, q) >= 0
}

// border is a side of a tile, with the tiles on its left and on its right; -1 is none.
type border struct {
	a, b        api.Point
	left, right int
}

// mosaic is a map made of tiles, from which all that is asked of it can be told without its edges.
type mosaic struct {
	m       api.Map
	tiles   []tile
	borders []border
}

// region returns the region of a numbered tile, or the outside.
func (x mosaic) region(number int) int {
	if number < 0 {
		return -1
	}
	return x.tiles[number].region
}

// grid returns the points of a grid of so many columns and rows of squares, moved a bit, and turned over, mirrored or slanted.
func grid(r *rand.Rand, columns, rows int) [][]api.Point {
	unit := []int{1, 2, 3, 12, 600, 6000}[r.IntN(6)]
	play := 0
	if r.IntN(3) > 0 {
		play = (unit - 1) / 6 // with less than a sixth all triangles remain counterclockwise
	}
	turns := [][4]int{{1, 0, 0, 1}, {0, -1, 1, 0}, {-1, 0, 0, -1}, {0, 1, -1, 0}, {1, 1, 0, 1}, {1, 0, 1, 1}, {1, -1, 0, 1}, {2, 1, 1, 1}, {1, -1, 1, 1}, {-1, -1, 1, 0}, {-1, 0, -2, -1}}
	turn := turns[r.IntN(len(turns))]
	points := make([][]api.Point, rows+1)
	low := at(most, most)
	for j := range points {
		for i := range columns + 1 {
			x, y := unit*i+r.IntN(2*play+1)-play, unit*j+r.IntN(2*play+1)-play
			q := at(turn[0]*x+turn[1]*y, turn[2]*x+turn[3]*y)
			points[j] = append(points[j], q)
			low = at(min(low.X, q.X), min(low.Y, q.Y))
		}
	}
	off := []int{0, 0, 1, 7}[r.IntN(4)]
	for _, row := range points {
		for i := range row {
			row[i] = at(row[i].X-low.X+off, row[i].Y-low.Y+off)
		}
	}
	return points
}

// tilesOf cuts the squares of a grid into tiles, and gives them regions.
func tilesOf(r *rand.Rand, points [][]api.Point, stands int) []tile {
	var tiles []tile
	whole := r.IntN(4)
	for j := range len(points) - 1 {
		for i := range len(points[j]) - 1 {
			a, b, c, d := points[j][i], points[j][i+1], points[j+1][i+1], points[j+1][i]
			region := r.IntN(stands+1) - 1
			other := region
			if r.IntN(4) < whole {
				other = r.IntN(stands+1) - 1
			}
			if r.IntN(2) == 0 {
				tiles = append(tiles, tile{[3]api.Point{a, b, c}, region}, tile{[3]api.Point{a, c, d}, other})
			} else {
				tiles = append(tiles, tile{[3]api.Point{a, b, d}, region}, tile{[3]api.Point{b, c, d}, other})
			}
		}
	}
	return tiles
}

// renumber gives the regions that occur the numbers from 0 on, and returns how many there are.
func renumber(tiles []tile) int {
	var used []int
	for _, x := range tiles {
		if x.region >= 0 && !slices.Contains(used, x.region) {
			used = append(used, x.region)
		}
	}
	for i, x := range tiles {
		tiles[i].region = slices.Index(used, x.region)
	}
	return len(used)
}

// bordersOf returns all sides of tiles, each once.
func bordersOf(tiles []tile) []border {
	type pair struct{ a, b api.Point }
	left := map[pair]int{}
	for i, x := range tiles {
		for k, a := range x.corners {
			left[pair{a, x.corners[(k+1)%3]}] = i
		}
	}
	var l []border
	for i, x := range tiles {
		for k, a := range x.corners {
			b := x.corners[(k+1)%3]
			right, ok := left[pair{b, a}]
			if !ok {
				l = append(l, border{a, b, i, -1})
			} else if i < right {
				l = append(l, border{a, b, i, right})
			}
		}
	}
	return l
}

// random makes a map of tiles, with points that have no edges, and with all in any order.
func random(r *rand.Rand) mosaic {
	for {
		var x mosaic
		columns, rows := 1+r.IntN(7), 1+r.IntN(7)
		points := grid(r, columns, rows)
		x.tiles = tilesOf(r, points, 1+r.IntN(1+r.IntN(api.MaxStands)))
		x.m.Stands = renumber(x.tiles)
		x.borders = bordersOf(x.tiles)
		x.m.Points = slices.Concat(points...)
		r.Shuffle(len(x.m.Points), func(i, j int) { x.m.Points[i], x.m.Points[j] = x.m.Points[j], x.m.Points[i] })
		for _, k := range r.Perm(len(x.borders)) {
			s := x.borders[k]
			a, b, left, right := slices.Index(x.m.Points, s.a), slices.Index(x.m.Points, s.b), x.region(s.left), x.region(s.right)
			switch {
			case left == right:
			case r.IntN(2) == 0:
				x.m.Edges = append(x.m.Edges, edge(a, b, left, right))
			default:
				x.m.Edges = append(x.m.Edges, edge(b, a, right, left))
			}
		}
		fits := !slices.ContainsFunc(x.m.Points, func(p api.Point) bool { return max(p.X, p.Y) > far })
		if fits && x.m.Stands > 0 && len(x.m.Edges) <= api.MaxEdges {
			return x
		}
	}
}

// mosaics are random maps.
func mosaics(seed uint64, count int) []mosaic {
	r := rand.New(rand.NewPCG(11, seed))
	var l []mosaic
	for range count {
		l = append(l, random(r))
	}
	return l
}

// components counts the connected parts of nodes.
func components(nodes int, pairs [][2]int) int {
	lead := make([]int, nodes)
	for i := range lead {
		lead[i] = i
	}
	for _, x := range pairs {
		from, to := lead[x[0]], lead[x[1]]
		for i := range lead {
			if lead[i] == from {
				lead[i] = to
			}
		}
	}
	slices.Sort(lead)
	return len(slices.Compact(lead))
}

// faces counts the connected parts of the tiles of a region, and of what lies around all tiles if it is the outside.
func (x mosaic) faces(region int) int {
	var numbers []int
	for i := -1; i < len(x.tiles); i++ {
		if x.region(i) == region {
			numbers = append(numbers, i)
		}
	}
	var pairs [][2]int
	for _, s := range x.borders {
		a, b := slices.Index(numbers, s.left), slices.Index(numbers, s.right)
		if a >= 0 && b >= 0 {
			pairs = append(pairs, [2]int{a, b})
		}
	}
	return components(len(numbers), pairs)
}

// TestP2_Subdivisions finds that all maps of tiles are accepted, and no longer where one edge is left out, turned round, or has another region on a side.
func TestP2_Subdivisions(t *testing.T) {
	r := rand.New(rand.NewPCG(11, 20))
	for _, x := range mosaics(2, 1000) {
		if e := cadastre.Check(x.m); e != api.OK {
			t.Fatal(x.m, e)
		}
		m := x.m
		m.Edges = slices.Clone(m.Edges)
		e := &m.Edges[r.IntN(len(m.Edges))]
		switch r.IntN(3) {
		case 0:
			e.Left, e.Right = e.Right, e.Left
		case 1:
			for old := e.Left; e.Left == old || e.Left == e.Right; {
				e.Left = r.IntN(m.Stands+2) - 1
				m.Stands = min(m.Stands+1, api.MaxStands)
			}
		default:
			*e = m.Edges[len(m.Edges)-1]
			m.Edges = m.Edges[:len(m.Edges)-1]
		}
		if e := cadastre.Check(m); e != api.ErrConflict {
			t.Fatal(m, e)
		}
	}
}

func TestP11_2_Definition(t *testing.T) {
	for _, x := range mosaics(3, 500) {
		for stand := range x.m.Stands {
			want := 0
			for _, y := range x.tiles {
				if y.region == stand {
					want += cross(y.corners[0], y.corners[1], y.corners[2])
				}
			}
			if n, e := cadastre.Area2(x.m, stand); n != want || e != api.OK {
				t.Fatal(x.m, stand, n, want, e)
			}
			if n, e := cadastre.Parts(x.m, stand); n != x.faces(stand) || e != api.OK {
				t.Fatal(x.m, stand, n, e)
			}
		}
	}
}

// adjacent reports whether tiles of two regions have a common side.
func (x mosaic) adjacent(a, b int) bool {
	return slices.ContainsFunc(x.borders, func(s border) bool {
		left, right := x.region(s.left), x.region(s.right)
		return left == a && right == b || left == b && right == a
	})
}

func TestP11_3_Definitions(t *testing.T) {
	for _, x := range mosaics(4, 250) {
		var want [][2]int
		for a := range x.m.Stands {
			for b := a + 1; b < x.m.Stands; b++ {
				if x.adjacent(a, b) {
					want = append(want, [2]int{a, b})
				}
			}
		}
		if got := cadastre.Neighbours(x.m); !slices.Equal(got, want) {
			t.Fatal(x.m, got, want)
		}
		for a := -1; a < x.m.Stands; a++ {
			for b := -1; b < x.m.Stands; b++ {
				if a != b {
					checkBorder(t, x, a, b)
				}
			}
		}
	}
}

// checkBorder compares the edges between two regions with the sides of tiles between them.
func checkBorder(t *testing.T, x mosaic, a, b int) {
	t.Helper()
	got, e := cadastre.Border(x.m, a, b)
	if e != api.OK || !slices.IsSorted(got) {
		t.Fatal(x.m, a, b, got, e)
	}
	want := 0
	for _, s := range x.borders {
		left, right := x.region(s.left), x.region(s.right)
		if left == a && right == b || left == b && right == a {
			want++
			number := slices.IndexFunc(x.m.Edges, func(e api.Edge) bool {
				p, q := x.m.Points[e.A], x.m.Points[e.B]
				return p == s.a && q == s.b || p == s.b && q == s.a
			})
			if !slices.Contains(got, number) {
				t.Fatal(x.m, a, b, got, number)
			}
		}
	}
	if len(got) != want {
		t.Fatal(x.m, a, b, got, want)
	}
}

// places returns the regions of the tiles at a point, and the outside where tiles do not lie all around it.
func (x mosaic) places(q api.Point) []int {
	var l []int
	for _, y := range x.tiles {
		if y.holds(q) {
			l = append(l, y.region)
		}
	}
	edge := slices.ContainsFunc(x.borders, func(s border) bool { return s.right < 0 && onLine(q, s.a, s.b) })
	if edge || len(l) == 0 {
		l = append(l, -1)
	}
	slices.Sort(l)
	return slices.Compact(l)
}

// TestP11_3_Places looks for points everywhere, above all at the coordinates of the points of the map.
func TestP11_3_Places(t *testing.T) {
	r := rand.New(rand.NewPCG(11, 30))
	var counts [4]int
	for _, x := range mosaics(5, 500) {
		points := x.m.Points
		pick := func() api.Point { return points[r.IntN(len(points))] }
		high := pick()
		for _, q := range points {
			high = at(max(high.X, q.X), max(high.Y, q.Y))
		}
		for range 60 {
			q := at(r.IntN(high.X+2), r.IntN(high.Y+2))
			a, b := pick(), pick()
			switch r.IntN(6) {
			case 0:
				q.X = a.X
			case 1:
				q.Y = a.Y
			case 2:
				q = at((a.X+b.X)/2, (a.Y+b.Y)/2)
			case 3:
				q = at(a.X, b.Y)
			case 4:
				q = a
			}
			got, e := cadastre.Locate(x.m, q)
			if !slices.Equal(got, x.places(q)) || e != api.OK {
				t.Fatal(x.m, q, got, x.places(q), e)
			}
			counts[min(len(got), 3)]++
		}
	}
	if slices.Min(counts[1:]) < 1000 {
		t.Error("only", counts)
	}
}

// ends returns the points where a directed edge begins and ends.
func ends(m api.Map, number int) (from, to api.Point) {
	e := m.Edges[number/2]
	if number%2 == 0 {
		return m.Points[e.A], m.Points[e.B]
	}
	return m.Points[e.B], m.Points[e.A]
}

// follower returns the directed edge that follows one in its ring: of those that leave the point, the one that is found first by turning clockwise from the way back.
func follower(m api.Map, number int) int {
	from, to := ends(m, number)
	angle := func(q api.Point) float64 { return math.Atan2(float64(q.Y-to.Y), float64(q.X-to.X)) }
	best, least := -1, math.Inf(1)
	for i := range 2 * len(m.Edges) {
		p, q := ends(m, i)
		if p != to {
			continue
		}
		turned := angle(from) - angle(q)
		if turned < 0 || q == from {
			turned += 2 * math.Pi
		}
		if turned < least {
			best, least = i, turned
		}
	}
	return best
}

// wantRings walks the rings by the definition.
func wantRings(m api.Map) [][]int {
	var rings [][]int
	done := make([]bool, 2*len(m.Edges))
	for first := range done {
		var ring []int
		for i := first; !done[i]; i = follower(m, i) {
			done[i] = true
			ring = append(ring, i)
		}
		if ring != nil {
			rings = append(rings, ring)
		}
	}
	return rings
}

func TestP11_4_Definitions(t *testing.T) {
	for _, x := range mosaics(6, 1000) {
		rings, e := cadastre.Rings(x.m)
		if !equalLists(rings, wantRings(x.m)) || e != api.OK {
			t.Fatal(x.m, rings, e)
		}
		var used []api.Point
		for i := range 2 * len(x.m.Edges) {
			from, _ := ends(x.m, i)
			if !slices.Contains(used, from) {
				used = append(used, from)
			}
		}
		var pairs [][2]int
		for _, e := range x.m.Edges {
			pairs = append(pairs, [2]int{slices.Index(used, x.m.Points[e.A]), slices.Index(used, x.m.Points[e.B])})
		}
		wantFaces := 0
		for region := -1; region < x.m.Stands; region++ {
			wantFaces += x.faces(region)
		}
		points, parts, faces, e := cadastre.Euler(x.m)
		if points != len(used) || parts != components(len(used), pairs) || faces != wantFaces || e != api.OK {
			t.Fatal(x.m, points, parts, faces, e)
		}
	}
}

// shuffled returns the same map with points without edges left out or added, and all in another order.
func shuffled(r *rand.Rand, m api.Map) api.Map {
	n := api.Map{Stands: m.Stands}
	number := func(p api.Point) int {
		if i := slices.Index(n.Points, p); i >= 0 {
			return i
		}
		n.Points = append(n.Points, p)
		return len(n.Points) - 1
	}
	if p := at(far, far-r.IntN(9)); r.IntN(2) == 0 && len(m.Points) < api.MaxPoints {
		number(p)
	}
	for _, i := range r.Perm(len(m.Edges)) {
		e := m.Edges[i]
		if r.IntN(2) == 0 {
			n.Edges = append(n.Edges, edge(number(m.Points[e.A]), number(m.Points[e.B]), e.Left, e.Right))
		} else {
			n.Edges = append(n.Edges, edge(number(m.Points[e.B]), number(m.Points[e.A]), e.Right, e.Left))
		}
	}
	return n
}

func TestP11_5_Definitions(t *testing.T) {
	r := rand.New(rand.NewPCG(11, 50))
	var before mosaic
	for _, x := range mosaics(7, 1000) {
		n, e := cadastre.Normal(x.m)
		if e != api.OK || n.Stands != x.m.Stands || len(n.Edges) != len(x.m.Edges) {
			t.Fatal(x.m, n, e)
		}
		for i, p := range n.Points {
			if i > 0 && cmp.Or(cmp.Compare(n.Points[i-1].X, p.X), cmp.Compare(n.Points[i-1].Y, p.Y)) >= 0 {
				t.Fatal(x.m, n, "points", i)
			}
			if !slices.ContainsFunc(n.Edges, func(e api.Edge) bool { return e.A == i || e.B == i }) {
				t.Fatal(x.m, n, "no edge at", i)
			}
		}
		for i, e := range n.Edges {
			if e.A >= e.B || i > 0 && cmp.Or(cmp.Compare(n.Edges[i-1].A, e.A), cmp.Compare(n.Edges[i-1].B, e.B)) >= 0 {
				t.Fatal(x.m, n, "edges", i)
			}
		}
		for _, e := range x.m.Edges {
			a, b := slices.Index(n.Points, x.m.Points[e.A]), slices.Index(n.Points, x.m.Points[e.B])
			if !slices.Contains(n.Edges, edge(a, b, e.Left, e.Right)) && !slices.Contains(n.Edges, edge(b, a, e.Right, e.Left)) {
				t.Fatal(x.m, n, e)
			}
		}
		other := shuffled(r, x.m)
		if !cadastre.Same(x.m, other) || !cadastre.Same(other, x.m) || cadastre.Same(x.m, before.m) {
			t.Fatal(x.m, other, before.m)
		}
		before = x
	}
}

// TestP11_6_Consequences finds Euler's formula, the area that the outside leaves, the two sides of edges, and what normal forms keep.
func TestP11_6_Consequences(t *testing.T) {
	for _, x := range mosaics(8, 400) {
		points, parts, faces, _ := cadastre.Euler(x.m)
		if points-len(x.m.Edges)+faces != 1+parts {
			t.Fatal(x.m, points, parts, faces)
		}
		normal, _ := cadastre.Normal(x.m)
		if e := cadastre.Check(normal); e != api.OK {
			t.Fatal(x.m, normal, e)
		}
		again, _ := cadastre.Normal(normal)
		if !slices.Equal(again.Points, normal.Points) || !slices.Equal(again.Edges, normal.Edges) || again.Stands != normal.Stands {
			t.Fatal(x.m, normal, again)
		}
		p, q, f, _ := cadastre.Euler(normal)
		if p != points || q != parts || f != faces || !slices.Equal(cadastre.Neighbours(normal), cadastre.Neighbours(x.m)) {
			t.Fatal(x.m, normal)
		}
		total := 0
		for stand := range x.m.Stands {
			a, _ := cadastre.Area2(x.m, stand)
			b, _ := cadastre.Area2(normal, stand)
			if a != b {
				t.Fatal(x.m, normal, stand)
			}
			total += a
		}
		for _, e := range x.m.Edges {
			a, b := x.m.Points[e.A], x.m.Points[e.B]
			if e.Left < 0 {
				total += a.X*b.Y - a.Y*b.X
			}
			if e.Right < 0 {
				total -= a.X*b.Y - a.Y*b.X
			}
			middle := at((a.X+b.X)/2, (a.Y+b.Y)/2)
			if at(2*middle.X, 2*middle.Y) != at(a.X+b.X, a.Y+b.Y) {
				continue
			}
			if got, _ := cadastre.Locate(x.m, middle); !slices.Equal(got, []int{min(e.Left, e.Right), max(e.Left, e.Right)}) {
				t.Fatal(x.m, e, got)
			}
		}
		if total != 0 {
			t.Fatal(x.m, total)
		}
	}
}

// meeting returns how many common points two edges have, up to 2, and whether one of them is not an end of both.
func meeting(a, b, c, d api.Point) (points int, inside bool) {
	along := func(p api.Point) *big.Rat { // the place of p on the line from a to b
		return big.NewRat(int64((p.X-a.X)*(b.X-a.X)+(p.Y-a.Y)*(b.Y-a.Y)), int64((b.X-a.X)*(b.X-a.X)+(b.Y-a.Y)*(b.Y-a.Y)))
	}
	zero, one := big.NewRat(0, 1), big.NewRat(1, 1)
	span := (b.X-a.X)*(d.Y-c.Y) - (b.Y-a.Y)*(d.X-c.X)
	if span == 0 {
		if cross(a, b, c) != 0 {
			return 0, false
		}
		s, t := along(c), along(d)
		if s.Cmp(t) > 0 {
			s, t = t, s
		}
		switch {
		case t.Cmp(zero) < 0 || s.Cmp(one) > 0:
			return 0, false
		case t.Cmp(zero) == 0 || s.Cmp(one) == 0:
			return 1, false
		}
		return 2, true
	}
	// The lines meet at a + s (b - a) = c + u (d - c).
	s := big.NewRat(int64((c.X-a.X)*(d.Y-c.Y)-(c.Y-a.Y)*(d.X-c.X)), int64(span))
	u := big.NewRat(int64((c.X-a.X)*(b.Y-a.Y)-(c.Y-a.Y)*(b.X-a.X)), int64(span))
	within := func(x *big.Rat) bool { return x.Cmp(zero) >= 0 && x.Cmp(one) <= 0 }
	if !within(s) || !within(u) {
		return 0, false
	}
	isEnd := func(x *big.Rat) bool { return x.Cmp(zero) == 0 || x.Cmp(one) == 0 }
	return 1, !isEnd(s) || !isEnd(u)
}

// wantBelow returns the region below and before a point, by the heights of edges very little before it.
func wantBelow(m api.Map, q api.Point) int {
	region, highest := -1, (*big.Rat)(nil)
	height := func(a, b api.Point, x *big.Rat) *big.Rat {
		h := new(big.Rat).Sub(x, big.NewRat(int64(a.X), 1))
		h.Mul(h, big.NewRat(int64(b.Y-a.Y), int64(b.X-a.X)))
		return h.Add(h, big.NewRat(int64(a.Y), 1))
	}
	here := big.NewRat(int64(q.X), 1)
	before := new(big.Rat).Sub(here, big.NewRat(1, 1<<60))
	for i := range 2 * len(m.Edges) {
		a, b := ends(m, i)
		if a.X >= q.X || b.X < q.X || height(a, b, here).Cmp(big.NewRat(int64(q.Y), 1)) >= 0 {
			continue
		}
		if h := height(a, b, before); highest == nil || h.Cmp(highest) > 0 {
			region, highest = leftOf(m, i), h
		}
	}
	return region
}

// leftOf returns the region on the left of a directed edge.
func leftOf(m api.Map, number int) int {
	if number%2 == 0 {
		return m.Edges[number/2].Left
	}
	return m.Edges[number/2].Right
}

// wantCheck follows the list of errors.
func wantCheck(m api.Map) int {
	if m.Stands < 1 || m.Stands > 16 {
		return api.ErrRange
	}
	if len(m.Points) > 64 || len(m.Edges) > 128 {
		return api.ErrLimit
	}
	for _, p := range m.Points {
		if p.X < 0 || p.Y < 0 || p.X > far || p.Y > far {
			return api.ErrRange
		}
	}
	for i := range m.Points {
		for j := range i {
			if m.Points[i] == m.Points[j] {
				return api.ErrExist
			}
		}
	}
	for _, e := range m.Edges {
		if min(e.A, e.B) < 0 || max(e.A, e.B) >= len(m.Points) || min(e.Left, e.Right) < -1 || max(e.Left, e.Right) >= m.Stands {
			return api.ErrRange
		}
		if e.A == e.B || e.Left == e.Right {
			return api.ErrForm
		}
	}
	if e := wantMeetings(m); e != api.OK {
		return e
	}
	if !fitsAround(m) || !fitsBefore(m) {
		return api.ErrConflict
	}
	for stand := range m.Stands {
		area2 := 0
		for i := range 2 * len(m.Edges) {
			if a, b := ends(m, i); leftOf(m, i) == stand {
				area2 += a.X*b.Y - a.Y*b.X
			}
		}
		if area2 <= 0 {
			return api.ErrNone
		}
	}
	return api.OK
}

// wantMeetings returns the error of edges with the same ends, or with other common points.
func wantMeetings(m api.Map) int {
	e := api.OK
	for i := range m.Edges {
		for j := range i {
			a, b := ends(m, 2*i)
			c, d := ends(m, 2*j)
			if a == c && b == d || a == d && b == c {
				return api.ErrExist
			}
			if points, inside := meeting(a, b, c, d); points > 1 || inside {
				e = api.ErrOrder
			}
		}
	}
	return e
}

// outgoing returns the directed edges that leave a point, sorted by angles from 0 up to a full turn.
func outgoing(m api.Map, p api.Point) []int {
	var l []int
	for i := range 2 * len(m.Edges) {
		if from, _ := ends(m, i); from == p {
			l = append(l, i)
		}
	}
	slices.SortFunc(l, func(i, j int) int { return cmp.Compare(angle(m, i), angle(m, j)) })
	return l
}

// angle returns the angle of a directed edge, from 0 up to a full turn.
func angle(m api.Map, number int) float64 {
	from, to := ends(m, number)
	if x := math.Atan2(float64(to.Y-from.Y), float64(to.X-from.X)); x < 0 {
		return x + 2*math.Pi
	} else {
		return x
	}
}

func fitsAround(m api.Map) bool {
	for _, p := range m.Points {
		l := outgoing(m, p)
		for i, a := range l {
			if leftOf(m, a) != leftOf(m, l[(i+1)%len(l)]^1) {
				return false
			}
		}
	}
	return true
}

// fitsBefore looks before the least point of each connected part.
func fitsBefore(m api.Map) bool {
	for i, p := range m.Points {
		l := outgoing(m, p)
		if len(l) == 0 || slices.ContainsFunc(connected(m, i), func(j int) bool {
			q := m.Points[j]
			return q.X < p.X || q.X == p.X && q.Y < p.Y
		}) {
			continue
		}
		region := leftOf(m, l[0]^1)
		for _, a := range l {
			if angle(m, a) < math.Pi {
				region = leftOf(m, a)
			}
		}
		if region != wantBelow(m, p) {
			return false
		}
	}
	return true
}

// connected returns the points that edges connect with one.
func connected(m api.Map, number int) []int {
	l := []int{number}
	for i := 0; i < len(l); i++ {
		for _, e := range m.Edges {
			for _, x := range [][2]int{{e.A, e.B}, {e.B, e.A}} {
				if x[0] == l[i] && !slices.Contains(l, x[1]) {
					l = append(l, x[1])
				}
			}
		}
	}
	return l
}

// spoil changes a map a bit.
func spoil(r *rand.Rand, m api.Map) api.Map {
	m.Points, m.Edges = slices.Clone(m.Points), slices.Clone(m.Edges)
	region := func() int { return r.IntN(m.Stands+1) - 1 }
	for range 1 + r.IntN(3) {
		p, e := &m.Points[r.IntN(len(m.Points))], &m.Edges[r.IntN(len(m.Edges))]
		switch r.IntN(9) {
		case 0:
			*p = at(p.X+r.IntN(3)-1, p.Y+r.IntN(3)-1)
		case 1:
			q := m.Points[r.IntN(len(m.Points))]
			*p = at(q.X, p.Y)
		case 2:
			e.Left, e.Right = e.Right, e.Left
		case 3:
			e.Left, e.Right = region(), region()
		case 4:
			e.B = r.IntN(len(m.Points))
		case 5:
			m.Edges = append(m.Edges, edge(r.IntN(len(m.Points)), r.IntN(len(m.Points)), region(), region()))
		case 6:
			if len(m.Edges) > 1 {
				*e = m.Edges[len(m.Edges)-1]
				m.Edges = m.Edges[:len(m.Edges)-1]
			}
		case 7:
			m.Stands += r.IntN(3) - 1
		case 8:
			exchangeAround(r, &m, region(), region())
		}
		m.Stands = max(m.Stands, 0)
	}
	return m
}

// exchangeAround gives a region another number along all edges of a connected part.
func exchangeAround(r *rand.Rand, m *api.Map, old, new int) {
	l := connected(*m, m.Edges[r.IntN(len(m.Edges))].A)
	for i, e := range m.Edges {
		if !slices.Contains(l, e.A) {
			continue
		}
		if e.Left == old {
			m.Edges[i].Left = new
		}
		if e.Right == old {
			m.Edges[i].Right = new
		}
	}
}

// rows makes a map of rings around each other, beside each other and within each other, with any regions on both sides.
func rows(r *rand.Rand) api.Map {
	var rings []ring
	stands := 1 + r.IntN(3)
	for range 1 + r.IntN(4) {
		x, y, width := r.IntN(8), r.IntN(8), 1+r.IntN(9)
		rings = append(rings, square(r.IntN(stands+1)-1, r.IntN(stands+1)-1, x, y, width))
		if r.IntN(2) == 0 {
			a, b, c := at(r.IntN(9), r.IntN(9)), at(r.IntN(9), r.IntN(9)), at(r.IntN(9), r.IntN(9))
			rings[len(rings)-1] = triangle(r.IntN(stands+1)-1, r.IntN(stands+1)-1, a, b, c)
		}
	}
	return join(stands, rings...)
}

// TestP11_1_Definition compares the errors of maps of all kinds with those that the definition gives.
func TestP11_1_Definition(t *testing.T) {
	r := rand.New(rand.NewPCG(11, 10))
	counts := map[int]int{}
	check := func(m api.Map) {
		t.Helper()
		e := cadastre.Check(m)
		if want := wantCheck(m); e != want {
			t.Fatal(m, e, "and not", want)
		}
		counts[e]++
	}
	for range 40000 {
		check(scribble(r))
		check(rows(r))
	}
	for _, x := range mosaics(9, 1000) {
		check(x.m)
		for range 3 {
			check(spoil(r, x.m))
		}
	}
	for _, e := range []int{api.OK, api.ErrRange, api.ErrForm, api.ErrNone, api.ErrExist, api.ErrOrder, api.ErrConflict} {
		if counts[e] < 500 {
			t.Error("only", counts[e], "maps with", e)
		}
	}
}
