package cadastre_test

import (
	"maps"
	"math/rand/v2"
	"slices"
	"testing"

	"coupe/api"
	"coupe/cadastre"
)

const (
	least = -1 << 63
	most  = 1<<63 - 1
	far   = api.MaxCoord
)

func at(x, y int) api.Point {
	return api.Point{X: x, Y: y}
}

func edge(a, b, left, right int) api.Edge {
	return api.Edge{A: a, B: b, Left: left, Right: right}
}

// example returns the map of the chapter.
func example() api.Map {
	return api.Map{
		Points: []api.Point{at(0, 0), at(4, 0), at(8, 0), at(8, 4), at(4, 4), at(0, 4)},
		Edges:  []api.Edge{edge(0, 1, 0, -1), edge(1, 2, 1, -1), edge(2, 3, 1, -1), edge(3, 4, 1, -1), edge(4, 5, 0, -1), edge(5, 0, 0, -1), edge(1, 4, 0, 1)},
		Stands: 2,
	}
}

// divided returns the square of the document's first example, divided along its diagonal.
func divided() api.Map {
	return api.Map{
		Points: []api.Point{at(0, 0), at(4, 0), at(4, 4), at(0, 4)},
		Edges:  []api.Edge{edge(0, 1, 0, -1), edge(1, 2, 0, -1), edge(2, 3, 1, -1), edge(3, 0, 1, -1), edge(0, 2, 1, 0)},
		Stands: 2,
	}
}

// join draws rings of points: all along a ring, left lies on its left and right on its right. Points that are drawn already are not drawn again; an edge that is drawn the other way already gets a new region on its right.
func join(stands int, rings ...ring) api.Map {
	m := api.Map{Stands: stands}
	number := func(p api.Point) int {
		if i := slices.Index(m.Points, p); i >= 0 {
			return i
		}
		m.Points = append(m.Points, p)
		return len(m.Points) - 1
	}
	for _, r := range rings {
		for i, p := range r.points {
			a, b := number(p), number(r.points[(i+1)%len(r.points)])
			j := slices.IndexFunc(m.Edges, func(e api.Edge) bool { return e.A == b && e.B == a })
			if j < 0 {
				m.Edges = append(m.Edges, edge(a, b, r.left, r.right))
			} else {
				m.Edges[j].Right = r.left
			}
		}
	}
	return m
}

// ring is a closed line between two regions.
type ring struct {
	left, right int
	points      []api.Point
}

// square returns a ring around a square, counterclockwise.
func square(left, right, x, y, width int) ring {
	return ring{left, right, []api.Point{at(x, y), at(x+width, y), at(x+width, y+width), at(x, y+width)}}
}

// triangle returns a ring of three points.
func triangle(left, right int, a, b, c api.Point) ring {
	return ring{left, right, []api.Point{a, b, c}}
}

// full returns a map with as many points, edges and stands as there may be: squares in 7 rows, of which neighbours belong to different stands, and 16 of which are cut along their diagonals.
func full() api.Map {
	m := api.Map{Stands: api.MaxStands}
	for i := range api.MaxPoints {
		m.Points = append(m.Points, at(3*(i%8), 5*(i/8)))
	}
	cut := func(column, row int) bool { return row%2 == 0 && column%2 == 0 }
	// The upper half of a square that is cut belongs to another stand.
	lower := func(column, row int) int {
		if column < 0 || row < 0 || column > 6 || row > 6 {
			return -1
		}
		return (2*column + 5*row) % api.MaxStands
	}
	upper := func(column, row int) int {
		if stand := lower(column, row); stand < 0 || !cut(column, row) {
			return stand
		}
		return (lower(column, row) + 1) % api.MaxStands
	}
	for i := range api.MaxPoints {
		column, row := i%8, i/8
		if column < 7 {
			m.Edges = append(m.Edges, edge(i, i+1, lower(column, row), upper(column, row-1)))
		}
		if row < 7 {
			m.Edges = append(m.Edges, edge(i, i+8, lower(column-1, row), upper(column, row)))
		}
		if column < 7 && row < 7 && cut(column, row) {
			m.Edges = append(m.Edges, edge(i, i+9, upper(column, row), lower(column, row)))
		}
	}
	return m
}

// named are maps without an error.
func named() map[string]api.Map {
	return map[string]api.Map{
		"of the chapter":                      example(),
		"of the document":                     divided(),
		"a triangle":                          join(1, triangle(0, -1, at(0, 0), at(1, 0), at(0, 1))),
		"a triangle, drawn the other way":     join(1, triangle(-1, 0, at(0, 1), at(1, 0), at(0, 0))),
		"no edge leads upwards at first":      join(1, triangle(0, -1, at(0, 5), at(3, 0), at(4, 2))),
		"all edges lead upwards at first":     join(1, triangle(0, -1, at(0, 0), at(3, 1), at(4, 5))),
		"two least X":                         join(1, triangle(0, -1, at(0, 5), at(0, 2), at(4, 0))),
		"the whole map":                       join(1, square(0, -1, 0, 0, far)),
		"two stands apart":                    join(2, square(0, -1, 0, 0, 2), square(1, -1, 5, 1, 2)),
		"a stand of two parts":                join(1, square(0, -1, 0, 0, 2), square(0, -1, 5, 1, 2)),
		"a hole":                              join(1, square(0, -1, 0, 0, 9), square(-1, 0, 3, 3, 3)),
		"an island":                           join(2, square(0, -1, 0, 0, 9), square(1, 0, 3, 3, 3)),
		"an island in a hole":                 join(2, square(0, -1, 0, 0, 9), square(-1, 0, 2, 2, 5), square(1, -1, 4, 4, 2)),
		"a part in a hole of the same stand":  join(1, square(0, -1, 0, 0, 9), square(-1, 0, 2, 2, 5), square(0, -1, 4, 4, 2)),
		"an island in an island":              join(3, square(0, -1, 0, 0, 9), square(1, 0, 2, 2, 5), square(2, 1, 4, 4, 2)),
		"an island of two stands":             join(3, square(0, -1, 0, 0, 9), square(1, 0, 2, 2, 2), ring{2, 0, []api.Point{at(4, 2), at(6, 2), at(6, 4), at(4, 4)}}),
		"islands above each other":            join(4, square(0, -1, 0, 0, 19), square(1, 0, 3, 3, 3), square(2, 0, 3, 7, 3), square(3, 0, 3, 11, 3)),
		"islands behind each other":           join(4, square(0, -1, 0, 0, 19), square(1, 0, 3, 3, 3), square(2, 0, 7, 3, 3), square(3, 0, 11, 3, 3)),
		"islands above slopes":                join(3, triangle(0, -1, at(0, 0), at(20, 2), at(10, 20)), triangle(1, 0, at(8, 4), at(11, 5), at(9, 6)), triangle(2, 0, at(9, 7), at(12, 9), at(10, 12))),
		"parts that touch":                    join(1, triangle(0, -1, at(2, 2), at(4, 0), at(4, 4)), triangle(0, -1, at(2, 2), at(0, 4), at(0, 0))),
		"stands that touch":                   join(2, triangle(0, -1, at(2, 2), at(4, 0), at(4, 4)), triangle(1, -1, at(2, 2), at(0, 4), at(0, 0))),
		"a hole that touches from the inside": join(1, square(0, -1, 0, 0, 9), triangle(-1, 0, at(0, 0), at(6, 3), at(3, 6))),
		"islands that touch":                  join(3, square(0, -1, 0, 0, 9), triangle(1, 0, at(3, 3), at(6, 3), at(6, 5)), triangle(2, 0, at(3, 3), at(6, 5), at(3, 6))),
		"points without edges":                {Points: []api.Point{at(9, 9), at(3, 0), at(0, 0), at(1, 1), at(0, 3)}, Edges: []api.Edge{edge(2, 1, 0, -1), edge(1, 4, 0, -1), edge(4, 2, 0, -1)}, Stands: 1},
		"as much as there may be":             full(),
	}
}

// without returns a map without one of its edges.
func without(m api.Map, number int) api.Map {
	m.Edges = slices.Delete(slices.Clone(m.Edges), number, number+1)
	return m
}

// with returns the map of the chapter after a change.
func with(change func(m *api.Map)) api.Map {
	m := example()
	change(&m)
	return m
}

// wrong is a map with an error.
type wrong struct {
	name string
	m    api.Map
	e    int
}

// changes make the errors of the map of the chapter, in the order in which they are returned.
var changes = []struct {
	name   string
	change func(m *api.Map)
	e      int
}{
	{"no stands", func(m *api.Map) { m.Stands = 0 }, api.ErrRange},
	{"too many points", func(m *api.Map) { m.Points = append(m.Points, make([]api.Point, api.MaxPoints)...) }, api.ErrLimit},
	{"a point above the map", func(m *api.Map) { m.Points = append(m.Points, at(0, far+1)) }, api.ErrRange},
	{"a point twice", func(m *api.Map) { m.Points = append(m.Points, m.Points[0]) }, api.ErrExist},
	{"an edge to no point", func(m *api.Map) { m.Edges = append(m.Edges, edge(0, -1, 0, 0)) }, api.ErrRange},
	{"an edge within a stand", func(m *api.Map) { m.Edges = append(m.Edges, edge(2, 4, 1, 1)) }, api.ErrForm},
	{"an edge twice", func(m *api.Map) { m.Edges = append(m.Edges, edge(4, 1, 0, 1)) }, api.ErrExist},
	{"edges that cross", func(m *api.Map) { m.Edges = append(m.Edges, edge(0, 3, 0, 1)) }, api.ErrOrder},
	{"sides that do not fit", func(m *api.Map) { m.Edges[6] = edge(1, 4, 1, 0) }, api.ErrConflict},
	{"a stand without an area", func(m *api.Map) { m.Stands = 3 }, api.ErrNone},
}

// faulty are maps with errors.
func faulty() []wrong {
	var l []wrong
	for i, x := range changes {
		l = append(l, wrong{x.name, with(x.change), x.e})
		for _, y := range changes[i+1:] {
			both := with(func(m *api.Map) { x.change(m); y.change(m) })
			if i == 0 {
				both.Stands = 0
			}
			l = append(l, wrong{x.name + ", " + y.name, both, x.e})
		}
	}
	l = append(l, wrongNumbers()...)
	l = append(l, wrongEdges()...)
	l = append(l, wrongMeetings()...)
	return append(l, wrongSides()...)
}

// wrongNumbers are maps with too many elements, or with points that are not valid or equal.
func wrongNumbers() []wrong {
	long := with(func(m *api.Map) { m.Edges = slices.Repeat(m.Edges, 19)[:api.MaxEdges+1] })
	wide := full()
	wide.Points = append(wide.Points, at(far, far))
	l := []wrong{
		{"nothing", api.Map{}, api.ErrRange},
		{"nothing but a stand", api.Map{Stands: 1}, api.ErrNone},
		{"points alone", api.Map{Points: []api.Point{at(0, 0), at(1, 0), at(0, 1)}, Stands: 1}, api.ErrNone},
		{"more stands than there may be", with(func(m *api.Map) { m.Stands = api.MaxStands + 1 }), api.ErrRange},
		{"far more stands", with(func(m *api.Map) { m.Stands = most }), api.ErrRange},
		{"far too few stands", with(func(m *api.Map) { m.Stands = least }), api.ErrRange},
		{"one point too many", wide, api.ErrLimit},
		{"one edge too many", long, api.ErrLimit},
	}
	for _, p := range []api.Point{at(-1, 0), at(0, -1), at(far+1, 0), at(0, far+1), at(least, most)} {
		l = append(l, wrong{"a point that is not valid", with(func(m *api.Map) { m.Points[3] = p }), api.ErrRange})
		l = append(l, wrong{"a point that is not valid and has no edge", with(func(m *api.Map) { m.Points = append(m.Points, p) }), api.ErrRange})
	}
	return append(l,
		wrong{"two equal points without edges", with(func(m *api.Map) { m.Points = append(m.Points, at(9, 9), at(9, 9)) }), api.ErrExist},
		wrong{"two equal points with edges", with(func(m *api.Map) { m.Points[5] = m.Points[0] }), api.ErrExist})
}

// wrongEdges are maps with edges that have an error by themselves.
func wrongEdges() []wrong {
	var l []wrong
	add := func(name string, e int, more ...api.Edge) {
		l = append(l, wrong{name, with(func(m *api.Map) { m.Edges = append(m.Edges, more...) }), e})
		l = append(l, wrong{name + ", first", with(func(m *api.Map) { m.Edges = append(slices.Clone(more), m.Edges...) }), e})
	}
	for _, n := range []int{least, -1, 6, most} {
		add("no point A", api.ErrRange, edge(n, 0, 0, 1))
		add("no point B", api.ErrRange, edge(0, n, 0, 1))
		add("no points", api.ErrRange, edge(n, n, 0, 1))
	}
	for _, n := range []int{least, -2, 2, most} {
		add("no stand on the left", api.ErrRange, edge(0, 2, n, 1))
		add("no stand on the right", api.ErrRange, edge(0, 2, 1, n))
		add("no stands", api.ErrRange, edge(0, 2, n, n))
		add("no stand at a point", api.ErrRange, edge(0, 0, n, 1))
	}
	add("a point", api.ErrForm, edge(3, 3, 0, 1))
	add("the same stand", api.ErrForm, edge(0, 2, 1, 1))
	add("the outside on both sides", api.ErrForm, edge(0, 2, -1, -1))
	add("a point before no point", api.ErrForm, edge(3, 3, 0, 1), edge(0, 9, 0, 1))
	add("no point before a point", api.ErrRange, edge(0, 9, 0, 1), edge(3, 3, 0, 1))
	add("the same stand before no stand", api.ErrForm, edge(0, 2, 1, 1), edge(0, 2, 1, 2))
	add("an edge twice before no point", api.ErrRange, edge(0, 1, 0, -1), edge(0, 9, 0, 1))
	add("an edge twice before a point", api.ErrForm, edge(0, 1, 0, -1), edge(3, 3, 0, 1))
	add("an edge twice", api.ErrExist, edge(0, 1, 0, -1))
	add("an edge twice, with other sides", api.ErrExist, edge(3, 4, 0, 1))
	add("an edge and the way back", api.ErrExist, edge(5, 4, -1, 0))
	return l
}

// wrongMeetings are maps whose edges meet where they must not.
func wrongMeetings() []wrong {
	line := func(points ...api.Point) api.Map { return join(2, ring{0, 1, points}) }
	return []wrong{
		{"edges cross", line(at(0, 0), at(4, 4), at(4, 0), at(0, 4)), api.ErrOrder},
		{"an end on another edge", line(at(0, 0), at(4, 0), at(4, 4), at(2, 0), at(0, 4)), api.ErrOrder},
		{"edges overlap that begin together", line(at(0, 0), at(4, 0), at(2, 0), at(2, 3)), api.ErrOrder},
		{"edges overlap that have no ends in common", line(at(0, 0), at(6, 0), at(6, 2), at(4, 0), at(2, 0), at(0, 2)), api.ErrOrder},
		{"the last edge on the first", line(at(0, 0), at(4, 0), at(4, 4), at(2, 0)), api.ErrOrder},
		{"a square upon another", join(2, square(0, -1, 0, 0, 4), square(1, -1, 2, 2, 4)), api.ErrOrder},
		{"a square that touches the middle of an edge", join(2, square(0, -1, 0, 0, 4), triangle(1, -1, at(4, 2), at(6, 0), at(6, 4))), api.ErrOrder},
		{"a square beside a larger one", join(2, square(0, -1, 0, 0, 4), square(1, -1, 4, 1, 2)), api.ErrOrder},
		{"long edges that nearly miss each other", line(at(0, 0), at(far, far-1), at(far-1, far), at(49999, 49999), at(50000, 49999)), api.ErrOrder},
	}
}

// wrongSides are maps whose edges have sides that do not fit, or have stands without an area.
func wrongSides() []wrong {
	swap := func(number int) api.Map {
		return with(func(m *api.Map) {
			m.Edges[number].Left, m.Edges[number].Right = m.Edges[number].Right, m.Edges[number].Left
		})
	}
	l := []wrong{
		{"of the chapter", swap(6), api.ErrConflict},
		{"an edge alone", api.Map{Points: []api.Point{at(0, 0), at(1, 0)}, Edges: []api.Edge{edge(0, 1, 0, -1)}, Stands: 1}, api.ErrConflict},
		{"an edge that ends nowhere", with(func(m *api.Map) { m.Points = append(m.Points, at(2, 2)); m.Edges = append(m.Edges, edge(0, 6, 0, 1)) }), api.ErrConflict},
		{"an open line", without(example(), 0), api.ErrConflict},
		{"only the outer ring", without(example(), 6), api.ErrConflict},
		{"the outside inside", join(1, square(-1, 0, 0, 0, 4)), api.ErrConflict},
		{"two stands without an outside", join(2, square(0, 1, 0, 0, 4)), api.ErrConflict},
		{"an island around which another stand should be", join(3, square(0, -1, 0, 0, 9), square(1, 2, 3, 3, 3), square(2, -1, 20, 0, 3)), api.ErrConflict},
		{"an island around which the outside should be", join(2, square(0, -1, 0, 0, 9), square(1, -1, 3, 3, 3)), api.ErrConflict},
		{"a hole outside", join(1, square(0, -1, 0, 0, 9), square(-1, 0, 20, 3, 3)), api.ErrConflict},
		{"a part on the same stand", join(1, square(0, -1, 0, 0, 9), square(0, -1, 3, 3, 3)), api.ErrConflict},
		{"an island in the wrong one of two parts", join(3, square(0, -1, 0, 0, 9), square(1, -1, 10, 0, 9), square(2, 0, 13, 3, 3)), api.ErrConflict},
		{"an island above an island, and around it that", join(3, square(0, -1, 0, 0, 19), square(1, 0, 3, 3, 3), square(2, 1, 3, 8, 3)), api.ErrConflict},
		{"no edge leads upwards, inside out", join(1, triangle(-1, 0, at(0, 5), at(3, 0), at(4, 2))), api.ErrConflict},
		{"all edges lead upwards, inside out", join(1, triangle(-1, 0, at(0, 0), at(3, 1), at(4, 5))), api.ErrConflict},
		{"a level edge, inside out", join(1, triangle(-1, 0, at(0, 3), at(3, 0), at(3, 3))), api.ErrConflict},
		{"an upright edge, inside out", join(1, triangle(-1, 0, at(0, 3), at(2, 1), at(0, 6))), api.ErrConflict},
		{"the last stand has no edges", with(func(m *api.Map) { m.Stands = 3 }), api.ErrNone},
		{"the first stand has no edges", join(2, square(1, -1, 0, 0, 4)), api.ErrNone},
		{"far too few edges", with(func(m *api.Map) { m.Stands = api.MaxStands }), api.ErrNone},
	}
	for i := range example().Edges {
		l = append(l, wrong{"an edge the other way", swap(i), api.ErrConflict})
	}
	return l
}

// answers returns whether some function that returns the errors of Check answers something, and their errors.
func answers(m api.Map, a, b int, q api.Point) (something bool, errors []int) {
	area2, e1 := cadastre.Area2(m, a)
	parts, e2 := cadastre.Parts(m, a)
	border, e3 := cadastre.Border(m, a, b)
	stands, e4 := cadastre.Locate(m, q)
	rings, e5 := cadastre.Rings(m)
	points, pieces, faces, e6 := cadastre.Euler(m)
	normal, e7 := cadastre.Normal(m)
	something = area2 != 0 || parts != 0 || border != nil || stands != nil || rings != nil || points != 0 || pieces != 0 || faces != 0
	something = something || normal.Points != nil || normal.Edges != nil || normal.Stands != 0
	something = something || cadastre.Neighbours(m) != nil || cadastre.Same(m, m)
	return something, []int{e1, e2, e3, e4, e5, e6, e7}
}

// scribble makes a map of any form.
func scribble(r *rand.Rand) api.Map {
	numbers := []int{least, -2, -1, 0, 1, 2, 3, 4, 16, far, far + 1, most}
	pick := func() int { return numbers[r.IntN(len(numbers))] }
	small := func() int { return r.IntN(6) - 1 }
	next := []func() int{pick, small, small, small, small}[r.IntN(5)]
	m := api.Map{Stands: next()}
	for range r.IntN(7) {
		m.Points = append(m.Points, at(next(), next()))
	}
	for range r.IntN(9) {
		m.Edges = append(m.Edges, edge(next(), next(), next(), next()))
	}
	return m
}

// TestP1_AnyArguments calls all functions with arguments of any form: none panics, and beside an error there is nothing else.
func TestP1_AnyArguments(t *testing.T) {
	r := rand.New(rand.NewPCG(11, 1))
	numbers := []int{least, -2, -1, 0, 1, 2, most}
	pick := func() int { return numbers[r.IntN(len(numbers))] }
	for range 200000 {
		m := scribble(r)
		e := cadastre.Check(m)
		something, errors := answers(m, pick(), pick(), at(pick(), pick()))
		if e != api.OK && something {
			t.Fatal(m, "results beside the error", e)
		}
		for i, f := range errors {
			if f != e && (e != api.OK || i > 3) {
				t.Fatal(m, i, f)
			}
		}
	}
	l := named()
	for _, m := range l {
		for _, a := range numbers {
			for _, b := range numbers {
				answers(m, a, b, at(a, b))
			}
		}
	}
}

func TestP1_ArgumentsAreKept(t *testing.T) {
	m := example()
	m.Points = append(make([]api.Point, 0, 9), m.Points...)
	m.Edges = append(make([]api.Edge, 0, 9), m.Edges...)
	points, edges := m.Points[:9], m.Edges[:9]
	points[6], edges[7] = at(5, 5), edge(3, 0, 0, 1)
	keptPoints, keptEdges := slices.Clone(points), slices.Clone(edges)
	for range 2 {
		answers(m, 0, 1, at(4, 0))
		// Results are the caller's: what is done with them does not show in later ones, or in other parts of them.
		clear(cadastre.Neighbours(m))
		border, _ := cadastre.Border(m, 0, 1)
		clear(border)
		stands, _ := cadastre.Locate(m, at(4, 0))
		clear(stands)
		rings, e := cadastre.Rings(m)
		for i := range rings {
			_ = append(rings[i], 99, 99, 99, 99)
		}
		if !equalLists(rings, exampleRings()) || e != api.OK {
			t.Error(rings, e)
		}
		for _, l := range rings {
			clear(l)
		}
		normal, _ := cadastre.Normal(m)
		clear(normal.Points[:cap(normal.Points)])
		clear(normal.Edges[:cap(normal.Edges)])
	}
	if !slices.Equal(points, keptPoints) || !slices.Equal(edges, keptEdges) {
		t.Error("arguments were changed")
	}
}

// exampleRings are the rings of the chapter.
func exampleRings() [][]int {
	return [][]int{{0, 12, 8, 10}, {1, 11, 9, 7, 5, 3}, {2, 4, 6, 13}}
}

func equalLists(a, b [][]int) bool {
	return slices.EqualFunc(a, b, slices.Equal[[]int])
}

func TestP11_1_Check(t *testing.T) {
	for name, m := range named() {
		if e := cadastre.Check(m); e != api.OK {
			t.Error(name, e)
		}
	}
	for _, x := range faulty() {
		if e := cadastre.Check(x.m); e != x.e {
			t.Error(x.name, e, "and not", x.e)
		}
	}
	if m := full(); len(m.Points) != api.MaxPoints || len(m.Edges) != api.MaxEdges {
		t.Error("only", len(m.Points), len(m.Edges))
	}
}

// TestP11_1_First finds that the other functions return the error of Check first.
func TestP11_1_First(t *testing.T) {
	for _, x := range faulty() {
		for _, n := range []int{-2, -1, 0, 1, most} {
			for _, q := range []api.Point{at(1, 1), at(0, 0), at(-1, 0), at(0, most)} {
				something, errors := answers(x.m, n, 0, q)
				if something {
					t.Fatal(x.name, "results beside the error")
				}
				for i, e := range errors {
					if e != x.e {
						t.Fatal(x.name, n, q, i, e)
					}
				}
			}
		}
	}
}

func TestP11_2_Area2(t *testing.T) {
	for _, x := range []struct {
		name  string
		areas []int
		parts []int
	}{
		{"of the chapter", []int{32, 32}, []int{1, 1}},
		{"of the document", []int{16, 16}, []int{1, 1}},
		{"a triangle", []int{1}, []int{1}},
		{"a triangle, drawn the other way", []int{1}, []int{1}},
		{"the whole map", []int{2 * far * far}, []int{1}},
		{"two stands apart", []int{8, 8}, []int{1, 1}},
		{"a stand of two parts", []int{16}, []int{2}},
		{"a hole", []int{144}, []int{1}},
		{"an island", []int{144, 18}, []int{1, 1}},
		{"an island in a hole", []int{112, 8}, []int{1, 1}},
		{"a part in a hole of the same stand", []int{120}, []int{2}},
		{"an island in an island", []int{112, 42, 8}, []int{1, 1, 1}},
		{"islands above each other", []int{668, 18, 18, 18}, []int{1, 1, 1, 1}},
		{"parts that touch", []int{16}, []int{2}},
		{"stands that touch", []int{8, 8}, []int{1, 1}},
		{"a hole that touches from the inside", []int{135}, []int{1}},
		{"islands that touch", []int{147, 6, 9}, []int{1, 1, 1}},
	} {
		m := named()[x.name]
		if m.Stands != len(x.areas) {
			t.Fatal(x.name, m.Stands)
		}
		for stand := range m.Stands {
			if n, e := cadastre.Area2(m, stand); n != x.areas[stand] || e != api.OK {
				t.Error(x.name, stand, "Area2", n, e)
			}
			if n, e := cadastre.Parts(m, stand); n != x.parts[stand] || e != api.OK {
				t.Error(x.name, stand, "Parts", n, e)
			}
		}
		for _, stand := range []int{least, -2, -1, m.Stands, m.Stands + 1, most} {
			if n, e := cadastre.Area2(m, stand); n != 0 || e != api.ErrNone {
				t.Error(x.name, stand, "Area2", n, e)
			}
			if n, e := cadastre.Parts(m, stand); n != 0 || e != api.ErrNone {
				t.Error(x.name, stand, "Parts", n, e)
			}
		}
	}
}

func TestP11_3_Neighbours(t *testing.T) {
	for _, x := range []struct {
		name string
		want [][2]int
	}{
		{"of the chapter", [][2]int{{0, 1}}},
		{"of the document", [][2]int{{0, 1}}},
		{"the whole map", nil},
		{"two stands apart", nil},
		{"a stand of two parts", nil},
		{"an island", [][2]int{{0, 1}}},
		{"an island in a hole", nil},
		{"an island in an island", [][2]int{{0, 1}, {1, 2}}},
		{"islands above each other", [][2]int{{0, 1}, {0, 2}, {0, 3}}},
		{"stands that touch", nil},
		{"islands that touch", [][2]int{{0, 1}, {0, 2}, {1, 2}}},
	} {
		if got := cadastre.Neighbours(named()[x.name]); !slices.Equal(got, x.want) {
			t.Error(x.name, got)
		}
	}
	for _, x := range faulty() {
		if got := cadastre.Neighbours(x.m); got != nil {
			t.Error(x.name, got)
		}
	}
}

func TestP11_3_Border(t *testing.T) {
	for _, x := range []struct {
		a, b int
		want []int
		e    int
	}{
		{0, 1, []int{6}, api.OK}, {1, 0, []int{6}, api.OK},
		{0, -1, []int{0, 4, 5}, api.OK}, {-1, 0, []int{0, 4, 5}, api.OK},
		{-1, 1, []int{1, 2, 3}, api.OK}, {1, -1, []int{1, 2, 3}, api.OK},
		{0, 0, nil, api.ErrArg}, {1, 1, nil, api.ErrArg}, {-1, -1, nil, api.ErrArg},
		{0, 2, nil, api.ErrNone}, {2, 0, nil, api.ErrNone}, {2, 2, nil, api.ErrNone}, {-2, 1, nil, api.ErrNone}, {1, -2, nil, api.ErrNone}, {-2, -2, nil, api.ErrNone},
		{least, 0, nil, api.ErrNone}, {0, most, nil, api.ErrNone}, {most, most, nil, api.ErrNone},
	} {
		if got, e := cadastre.Border(example(), x.a, x.b); !slices.Equal(got, x.want) || e != x.e {
			t.Error(x.a, x.b, got, e)
		}
	}
	apart := named()["two stands apart"]
	if got, e := cadastre.Border(apart, 0, 1); len(got) != 0 || e != api.OK {
		t.Error("apart", got, e)
	}
}

func TestP11_3_Locate(t *testing.T) {
	for _, x := range []struct {
		name string
		q    api.Point
		want []int
	}{
		{"of the chapter", at(2, 2), []int{0}},
		{"of the chapter", at(4, 2), []int{0, 1}},
		{"of the chapter", at(4, 0), []int{-1, 0, 1}},
		{"of the chapter", at(9, 2), []int{-1}},
		{"of the chapter", at(7, 2), []int{1}},
		{"of the chapter", at(8, 2), []int{-1, 1}},
		{"of the chapter", at(0, 4), []int{-1, 0}},
		{"of the chapter", at(4, 5), []int{-1}},
		{"of the chapter", at(0, 5), []int{-1}},
		{"of the chapter", at(8, 5), []int{-1}},
		{"of the chapter", at(far, 0), []int{-1}},
		{"of the chapter", at(far, far), []int{-1}},
		{"the whole map", at(0, 0), []int{-1, 0}},
		{"the whole map", at(far, far), []int{-1, 0}},
		{"the whole map", at(1, far-1), []int{0}},
		{"a hole", at(4, 4), []int{-1}},
		{"a hole", at(3, 4), []int{-1, 0}},
		{"a hole", at(2, 4), []int{0}},
		{"a hole", at(3, 7), []int{0}},
		{"a hole", at(6, 7), []int{0}},
		{"a hole", at(7, 4), []int{0}},
		{"an island", at(4, 4), []int{1}},
		{"an island", at(4, 7), []int{0}},
		{"an island", at(4, 2), []int{0}},
		{"an island in a hole", at(3, 5), []int{-1}},
		{"an island in a hole", at(5, 5), []int{1}},
		{"an island in a hole", at(5, 6), []int{-1, 1}},
		{"an island in a hole", at(4, 7), []int{-1, 0}},
		{"islands above each other", at(4, 4), []int{1}},
		{"islands above each other", at(6, 8), []int{0, 2}},
		{"islands above each other", at(6, 10), []int{0, 2}},
		{"islands above each other", at(5, 12), []int{3}},
		{"islands above each other", at(6, 15), []int{0}},
		{"islands above each other", at(3, 15), []int{0}},
		{"islands above each other", at(3, 20), []int{-1}},
		{"points without edges", at(1, 1), []int{0}},
		{"points without edges", at(9, 9), []int{-1}},
		{"parts that touch", at(2, 2), []int{-1, 0}},
		{"parts that touch", at(2, 1), []int{-1}},
		{"parts that touch", at(2, 3), []int{-1}},
		{"stands that touch", at(2, 2), []int{-1, 0, 1}},
		{"stands that touch", at(1, 2), []int{1}},
		{"islands that touch", at(3, 3), []int{0, 1, 2}},
		{"islands that touch", at(6, 5), []int{0, 1, 2}},
		{"no edge leads upwards at first", at(3, 2), []int{0}},
		{"no edge leads upwards at first", at(4, 1), []int{-1}},
		{"no edge leads upwards at first", at(4, 3), []int{-1}},
		{"no edge leads upwards at first", at(0, 6), []int{-1}},
	} {
		if got, e := cadastre.Locate(named()[x.name], x.q); !slices.Equal(got, x.want) || e != api.OK {
			t.Error(x.name, x.q, got, e)
		}
	}
	for _, q := range []api.Point{at(-1, 0), at(0, -1), at(far+1, 0), at(0, far+1), at(least, most)} {
		if got, e := cadastre.Locate(example(), q); got != nil || e != api.ErrRange {
			t.Error(q, got, e)
		}
	}
}

func TestP11_4_Rings(t *testing.T) {
	for _, x := range []struct {
		name string
		want [][]int
	}{
		{"of the chapter", exampleRings()},
		{"of the document", [][]int{{0, 2, 9}, {1, 7, 5, 3}, {4, 6, 8}}},
		{"a triangle", [][]int{{0, 2, 4}, {1, 5, 3}}},
		{"a hole", [][]int{{0, 2, 4, 6}, {1, 7, 5, 3}, {8, 10, 12, 14}, {9, 15, 13, 11}}},
		{"parts that touch", [][]int{{0, 2, 4}, {1, 11, 9, 7, 5, 3}, {6, 8, 10}}},
		{"a hole that touches from the inside", [][]int{{0, 2, 4, 6, 13, 11, 9}, {1, 7, 5, 3}, {8, 10, 12}}},
	} {
		if got, e := cadastre.Rings(named()[x.name]); !equalLists(got, x.want) || e != api.OK {
			t.Error(x.name, got, e)
		}
	}
}

func TestP11_4_Euler(t *testing.T) {
	for _, x := range []struct {
		name                 string
		points, parts, faces int
	}{
		{"of the chapter", 6, 1, 3},
		{"of the document", 4, 1, 3},
		{"the whole map", 4, 1, 2},
		{"two stands apart", 8, 2, 3},
		{"a stand of two parts", 8, 2, 3},
		{"a hole", 8, 2, 3},
		{"an island in an island", 12, 3, 4},
		{"parts that touch", 5, 1, 3},
		{"a hole that touches from the inside", 6, 1, 3},
		{"islands that touch", 8, 2, 4},
		{"points without edges", 3, 1, 2},
		{"as much as there may be", 64, 1, 66},
	} {
		points, parts, faces, e := cadastre.Euler(named()[x.name])
		if points != x.points || parts != x.parts || faces != x.faces || e != api.OK {
			t.Error(x.name, points, parts, faces, e)
		}
	}
}

func TestP11_5_Normal(t *testing.T) {
	for _, x := range []struct {
		name   string
		points []api.Point
		edges  []api.Edge
	}{
		{"of the chapter",
			[]api.Point{at(0, 0), at(0, 4), at(4, 0), at(4, 4), at(8, 0), at(8, 4)},
			[]api.Edge{edge(0, 1, -1, 0), edge(0, 2, 0, -1), edge(1, 3, -1, 0), edge(2, 3, 0, 1), edge(2, 4, 1, -1), edge(3, 5, -1, 1), edge(4, 5, 1, -1)}},
		{"points without edges",
			[]api.Point{at(0, 0), at(0, 3), at(3, 0)},
			[]api.Edge{edge(0, 1, -1, 0), edge(0, 2, 0, -1), edge(1, 2, -1, 0)}},
		{"a triangle, drawn the other way",
			[]api.Point{at(0, 0), at(0, 1), at(1, 0)},
			[]api.Edge{edge(0, 1, -1, 0), edge(0, 2, 0, -1), edge(1, 2, -1, 0)}},
	} {
		m := named()[x.name]
		got, e := cadastre.Normal(m)
		if !slices.Equal(got.Points, x.points) || !slices.Equal(got.Edges, x.edges) || got.Stands != m.Stands || e != api.OK {
			t.Error(x.name, got, e)
		}
	}
}

func TestP11_5_Same(t *testing.T) {
	l := named()
	names := slices.Sorted(maps.Keys(l))
	for _, a := range names {
		for _, b := range names {
			same := a == b || a == "a triangle" && b == "a triangle, drawn the other way" || b == "a triangle" && a == "a triangle, drawn the other way"
			if cadastre.Same(l[a], l[b]) != same {
				t.Error(a, "and", b, !same)
			}
		}
	}
	m := example()
	for _, x := range faulty() {
		if cadastre.Same(m, x.m) || cadastre.Same(x.m, m) || cadastre.Same(x.m, x.m) {
			t.Error(x.name)
		}
	}
	for name, other := range map[string]api.Map{
		"another point": with(func(m *api.Map) { m.Points[3] = at(9, 4) }),
		"another owner": exchanged(m),
		"a finer border": with(func(m *api.Map) {
			m.Points = append(m.Points, at(0, 2))
			m.Edges[5].B = 6
			m.Edges = append(m.Edges, edge(6, 0, 0, -1))
		}),
		"a stand less": join(1, square(0, -1, 0, 0, 4)),
	} {
		if cadastre.Check(other) != api.OK || cadastre.Same(m, other) || cadastre.Same(other, m) {
			t.Error(name)
		}
	}
}

// exchanged returns a map with the numbers of the first two stands exchanged.
func exchanged(m api.Map) api.Map {
	other := func(region int) int {
		if region == 0 || region == 1 {
			return 1 - region
		}
		return region
	}
	m.Edges = slices.Clone(m.Edges)
	for i, e := range m.Edges {
		m.Edges[i].Left, m.Edges[i].Right = other(e.Left), other(e.Right)
	}
	return m
}
