package adjacency_test

import (
	"math/big"
	"math/rand/v2"
	"reflect"
	"slices"
	"sort"
	"testing"

	"coupe/adjacency"
	"coupe/api"
	"coupe/cadastre"
	"coupe/graph"
	"coupe/interval"
)

const (
	lowest  = -1 << 63
	highest = 1<<63 - 1
)

// four returns the squares of the chapter: two below, two above.
func four() api.Map {
	return drawn(10, "cd", "ab").draw()
}

// row returns three squares in a row.
func row() api.Map {
	return drawn(10, "abc").draw()
}

// slanted returns the triangles (0, 0) (7, 1) (2, 5), (7, 1) (9, 8) (2, 5) beside it, and (2, 5) (1, 9) (0, 7), which touches both.
func slanted() api.Map {
	return api.Map{
		Points: []api.Point{{X: 0, Y: 0}, {X: 7, Y: 1}, {X: 2, Y: 5}, {X: 9, Y: 8}, {X: 1, Y: 9}, {X: 0, Y: 7}},
		Edges: []api.Edge{
			{A: 0, B: 1, Left: 0, Right: -1}, {A: 2, B: 1, Left: 1, Right: 0}, {A: 2, B: 0, Left: 0, Right: -1},
			{A: 3, B: 1, Left: -1, Right: 1}, {A: 3, B: 2, Left: 1, Right: -1},
			{A: 2, B: 4, Left: 2, Right: -1}, {A: 4, B: 5, Left: 2, Right: -1}, {A: 5, B: 2, Left: 2, Right: -1},
		},
		Stands: 3,
	}
}

// full returns a map of as many stands and points as there may be.
func full() api.Map {
	return drawn(14285, "abcdefg", "hijklmn", "opabcde", "fghijkl", "mnopabc", "defghij", "klmnopa").draw()
}

// named are maps without an error.
func named() map[string]api.Map {
	return map[string]api.Map{
		"of the chapter":          four(),
		"a row":                   row(),
		"slanted":                 slanted(),
		"one stand":               drawn(4, "a").draw(),
		"one stand of two parts":  drawn(4, "a.a").draw(),
		"an island":               drawn(3, "aaa", "aba", "aaa").draw(),
		"an island in a hole":     drawn(3, "aaaaa", "a...a", "a.b.a", "a...a", "aaaaa").draw(),
		"islands in each other":   drawn(3, "aaaaa", "abbba", "abcba", "abbba", "aaaaa").draw(),
		"as much as there may be": full(),
	}
}

// with returns the map of the chapter after a change.
func with(change func(m *api.Map)) api.Map {
	m := four()
	change(&m)
	return m
}

// faulty are maps with each error of cadastre.Check.
func faulty() map[string]api.Map {
	return map[string]api.Map{
		"nothing":              {},
		"too many stands":      with(func(m *api.Map) { m.Stands = api.MaxStands + 1 }),
		"far too many stands":  with(func(m *api.Map) { m.Stands = highest }),
		"too many points":      with(func(m *api.Map) { m.Points = append(m.Points, make([]api.Point, api.MaxPoints)...) }),
		"a point far away":     with(func(m *api.Map) { m.Points[0].X = lowest }),
		"a point twice":        with(func(m *api.Map) { m.Points[0] = m.Points[1] }),
		"an edge to no point":  with(func(m *api.Map) { m.Edges[2].B = highest }),
		"an edge of no stand":  with(func(m *api.Map) { m.Edges[2].Left = 4 }),
		"an edge to itself":    with(func(m *api.Map) { m.Edges[2].B = m.Edges[2].A }),
		"edges that cross":     with(func(m *api.Map) { m.Points[0] = api.Point{X: 15, Y: 15} }),
		"sides that clash":     with(func(m *api.Map) { m.Edges[0].Left = 3 }),
		"a stand without area": with(func(m *api.Map) { m.Stands = 5 }),
	}
}

// answers returns the results of all functions that return the errors of cadastre.Check, and their errors.
func answers(m api.Map, a, b, r int, set []bool) (results []any, errors []int) {
	shared, e1 := adjacency.Shared(m, a, b)
	perimeter, e2 := adjacency.Perimeter(m, a)
	near, e3 := adjacency.Close(m, a, b, r)
	buffer, e4 := adjacency.Buffer(m, a, r)
	corners, e5 := adjacency.Corners(m)
	g, e6 := adjacency.Graph(m)
	blocks, e7 := adjacency.Blocks(m, set)
	return []any{shared, perimeter, near, buffer, corners, g, blocks}, []int{e1, e2, e3, e4, e5, e6, e7}
}

// checkNothingBesideErrors finds that functions that return an error return nothing else.
func checkNothingBesideErrors(t *testing.T, results []any, errors []int) {
	t.Helper()
	for i, e := range errors {
		if e != api.OK && !reflect.ValueOf(results[i]).IsZero() {
			t.Error("function", i, "returns", results[i], "beside the error", e)
		}
	}
}

// TestP1_AnyArguments calls all functions with arguments of any form: none panics.
func TestP1_AnyArguments(t *testing.T) {
	numbers := []int{lowest, -200000, -2, -1, 0, 1, 2, 3, 15, 16, 200000, 200001, highest}
	r := rand.New(rand.NewPCG(13, 10))
	pick := func() int { return numbers[r.IntN(len(numbers))] }
	for range 30000 {
		m := api.Map{Stands: pick()}
		for range r.IntN(5) {
			m.Points = append(m.Points, api.Point{X: pick(), Y: pick()})
		}
		for range r.IntN(5) {
			m.Edges = append(m.Edges, api.Edge{A: pick(), B: pick(), Left: pick(), Right: pick()})
		}
		results, errors := answers(m, pick(), pick(), pick(), make([]bool, r.IntN(4)))
		checkNothingBesideErrors(t, results, errors)
	}
	for _, m := range []api.Map{four(), slanted(), drawn(4, "a").draw()} {
		for _, a := range numbers {
			for _, b := range numbers {
				for _, radius := range []int{lowest, -1, 0, 7, 200000, 200001, highest} {
					results, errors := answers(m, a, b, radius, make([]bool, r.IntN(6)))
					checkNothingBesideErrors(t, results, errors)
				}
			}
		}
	}
}

// TestP1_Check finds that all functions return the error of the map first, whatever the other arguments are.
func TestP1_Check(t *testing.T) {
	var seen []int
	for name, m := range faulty() {
		want := cadastre.Check(m)
		seen = append(seen, want)
		for _, numbers := range [][3]int{{0, 1, 0}, {0, 0, 0}, {0, 1, -1}, {9, 9, 9}, {lowest, highest, highest}} {
			results, errors := answers(m, numbers[0], numbers[1], numbers[2], nil)
			checkNothingBesideErrors(t, results, errors)
			if slices.ContainsFunc(errors, func(e int) bool { return e != want || e == api.OK }) {
				t.Error(name, numbers, errors, want)
			}
		}
	}
	for _, e := range []int{api.ErrRange, api.ErrLimit, api.ErrExist, api.ErrForm, api.ErrOrder, api.ErrConflict, api.ErrNone} {
		if !slices.Contains(seen, e) {
			t.Error("no map has the error", e)
		}
	}
}

func TestP1_ArgumentsAreKept(t *testing.T) {
	m := four()
	m.Points = append(make([]api.Point, 0, 12), m.Points...)
	m.Edges = append(make([]api.Edge, 0, 15), m.Edges...)
	set := append(make([]bool, 0, 9), true, false, true, true)
	points, edges, more := m.Points[:12], m.Edges[:15], set[:9]
	points[11], edges[13], more[7] = api.Point{X: 3}, api.Edge{B: 4}, true
	keptPoints, keptEdges, keptSet := slices.Clone(points), slices.Clone(edges), slices.Clone(more)
	first, _ := answers(m, 0, 1, 0, set)
	for range 2 {
		// Results are the caller's: what is done with them does not show in later ones.
		buffer, _ := adjacency.Buffer(m, 0, 0)
		clear(buffer)
		corners, _ := adjacency.Corners(m)
		clear(corners)
		g, _ := adjacency.Graph(m)
		clear(g.Arcs)
		blocks, _ := adjacency.Blocks(m, set)
		clear(blocks)
	}
	if again, _ := answers(m, 0, 1, 0, set); !reflect.DeepEqual(again, first) {
		t.Error(again, first)
	}
	if !slices.Equal(points, keptPoints) || !slices.Equal(edges, keptEdges) || !slices.Equal(more, keptSet) {
		t.Error("arguments were changed")
	}
}

func TestP13_1_Shared(t *testing.T) {
	for i, x := range []struct {
		m      api.Map
		a, b   int
		lo, hi int
		e      int
	}{
		{four(), 0, 1, 10, 10, api.OK},
		{four(), 1, 0, 10, 10, api.OK},
		{four(), 0, -1, 20, 20, api.OK},
		{four(), -1, 3, 20, 20, api.OK},
		{four(), 0, 3, 0, 0, api.OK},
		{row(), 0, 2, 0, 0, api.OK},
		{row(), 1, -1, 20, 20, api.OK},
		{drawn(5, "aab", "bab", "bbb").draw(), 0, 1, 25, 25, api.OK},
		{drawn(5, "ab", "ba").draw(), 0, 1, 20, 20, api.OK},
		{drawn(3, "aaa", "aba", "aaa").draw(), 1, 0, 12, 12, api.OK},
		{drawn(3, "aaa", "aba", "aaa").draw(), 1, -1, 0, 0, api.OK},
		{drawn(3, "aaa", "a.a", "aaa").draw(), 0, -1, 48, 48, api.OK},
		{slanted(), 0, 1, 6, 7, api.OK},    // sqrt(41)
		{slanted(), 0, -1, 12, 14, api.OK}, // sqrt(50), sqrt(29)
		{slanted(), 2, -1, 8, 11, api.OK},  // sqrt(17), sqrt(5), sqrt(8)
		{full(), 0, 1, 3 * 14285, 3 * 14285, api.OK},
		{four(), 0, 4, 0, 0, api.ErrNone},
		{four(), 4, 0, 0, 0, api.ErrNone},
		{four(), -2, 0, 0, 0, api.ErrNone},
		{four(), 0, highest, 0, 0, api.ErrNone},
		{four(), 4, 4, 0, 0, api.ErrNone},
		{four(), lowest, lowest, 0, 0, api.ErrNone},
		{four(), 0, 0, 0, 0, api.ErrArg},
		{four(), -1, -1, 0, 0, api.ErrArg},
	} {
		if s, e := adjacency.Shared(x.m, x.a, x.b); s != (api.Span{Lo: x.lo, Hi: x.hi}) || e != x.e {
			t.Error(i, s, e)
		}
	}
}

func TestP13_1_Perimeter(t *testing.T) {
	for i, x := range []struct {
		m      api.Map
		stand  int
		lo, hi int
		e      int
	}{
		{four(), 0, 40, 40, api.OK},
		{four(), 1, 40, 40, api.OK},
		{four(), 2, 40, 40, api.OK},
		{four(), 3, 40, 40, api.OK},
		{drawn(4, "a.a").draw(), 0, 32, 32, api.OK},
		{drawn(3, "aaa", "aba", "aaa").draw(), 0, 48, 48, api.OK},
		{drawn(3, "aaa", "a.a", "aaa").draw(), 0, 48, 48, api.OK},
		{drawn(api.MaxCoord, "a").draw(), 0, 4 * api.MaxCoord, 4 * api.MaxCoord, api.OK},
		{slanted(), 0, 18, 21, api.OK}, // sqrt(41), sqrt(50), sqrt(29)
		{slanted(), 1, 20, 23, api.OK}, // sqrt(41), sqrt(53), sqrt(58)
		{slanted(), 2, 8, 11, api.OK},
		{four(), -1, 0, 0, api.ErrNone},
		{four(), 4, 0, 0, api.ErrNone},
		{four(), lowest, 0, 0, api.ErrNone},
		{four(), highest, 0, 0, api.ErrNone},
	} {
		if s, e := adjacency.Perimeter(x.m, x.stand); s != (api.Span{Lo: x.lo, Hi: x.hi}) || e != x.e {
			t.Error(i, s, e)
		}
	}
}

func TestP13_2_Close(t *testing.T) {
	for a := range 4 {
		for b := range 4 {
			if near, e := adjacency.Close(four(), a, b, 0); a != b && (!near || e != api.OK) {
				t.Error(a, b, near, e)
			}
		}
	}
	for i, x := range []struct {
		m       api.Map
		a, b, r int
		near    bool
		e       int
	}{
		{row(), 0, 2, 10, true, api.OK},
		{row(), 2, 0, 10, true, api.OK},
		{row(), 0, 2, 9, false, api.OK},
		{row(), 2, 0, 9, false, api.OK},
		{row(), 0, 2, 200000, true, api.OK},
		{drawn(1, "a...", "....", "....", "....", "....b").draw(), 0, 1, 5, true, api.OK},
		{drawn(1, "a...", "....", "....", "....", "....b").draw(), 0, 1, 4, false, api.OK},
		{drawn(3, "aaaaa", "a...a", "a.b.a", "a...a", "aaaaa").draw(), 0, 1, 3, true, api.OK},
		{drawn(3, "aaaaa", "a...a", "a.b.a", "a...a", "aaaaa").draw(), 0, 1, 2, false, api.OK},
		{drawn(3, "aaaaa", "abbba", "abcba", "abbba", "aaaaa").draw(), 0, 2, 3, true, api.OK},
		{drawn(3, "aaaaa", "abbba", "abcba", "abbba", "aaaaa").draw(), 0, 2, 2, false, api.OK},
		{drawn(api.MaxCoord, "a").draw(), 0, 1, 0, false, api.ErrNone},
		{four(), 0, 4, 0, false, api.ErrNone},
		{four(), 4, 0, 0, false, api.ErrNone},
		{four(), 0, -1, 0, false, api.ErrNone},
		{four(), -1, 0, 0, false, api.ErrNone},
		{four(), -1, -1, -1, false, api.ErrNone},
		{four(), 4, 4, -1, false, api.ErrNone},
		{four(), lowest, highest, highest, false, api.ErrNone},
		{four(), 2, 2, 0, false, api.ErrArg},
		{four(), 2, 2, -1, false, api.ErrArg},
		{four(), 0, 1, -1, false, api.ErrRange},
		{four(), 0, 1, 200001, false, api.ErrRange},
		{four(), 0, 1, lowest, false, api.ErrRange},
		{four(), 0, 1, highest, false, api.ErrRange},
	} {
		if near, e := adjacency.Close(x.m, x.a, x.b, x.r); near != x.near || e != x.e {
			t.Error(i, near, e)
		}
	}
}

func TestP13_2_Buffer(t *testing.T) {
	one := drawn(4, "a").draw()
	for i, x := range []struct {
		m        api.Map
		stand, r int
		want     []int
		e        int
	}{
		{four(), 0, 0, []int{1, 2, 3}, api.OK},
		{four(), 2, 0, []int{0, 1, 3}, api.OK},
		{row(), 0, 9, []int{1}, api.OK},
		{row(), 0, 10, []int{1, 2}, api.OK},
		{row(), 1, 0, []int{0, 2}, api.OK},
		{row(), 2, 9, []int{1}, api.OK},
		{drawn(2, "b.a.c").draw(), 0, 1, nil, api.OK},
		{drawn(2, "b.a.c").draw(), 0, 2, []int{1, 2}, api.OK},
		{one, 0, 0, nil, api.OK},
		{one, 0, 200000, nil, api.OK},
		{one, 0, -1, nil, api.ErrRange},
		{one, 0, 200001, nil, api.ErrRange},
		{one, 1, -1, nil, api.ErrNone},
		{four(), 4, 0, nil, api.ErrNone},
		{four(), -1, 0, nil, api.ErrNone},
		{four(), highest, 0, nil, api.ErrNone},
		{four(), lowest, highest, nil, api.ErrNone},
		{four(), 0, lowest, nil, api.ErrRange},
		{four(), 0, highest, nil, api.ErrRange},
	} {
		if l, e := adjacency.Buffer(x.m, x.stand, x.r); !slices.Equal(l, x.want) || e != x.e {
			t.Error(i, l, e)
		}
	}
}

// leastDistance returns the least whole number that the distance of two stands does not exceed. Edges of a map meet in ends only, so that the ends are closest.
func leastDistance(m api.Map, a, b int) int {
	return sort.Search(200000, func(r int) bool {
		for _, e := range m.Edges {
			for _, f := range m.Edges {
				if (e.Left != a && e.Right != a) || (f.Left != b && f.Right != b) {
					continue
				}
				p, q, s, t := m.Points[e.A], m.Points[e.B], m.Points[f.A], m.Points[f.B]
				if endNear(p, s, t, r) || endNear(q, s, t, r) || endNear(s, p, q, r) || endNear(t, p, q, r) {
					return true
				}
			}
		}
		return false
	})
}

// endNear compares the squared distance of a point from a segment with r squared, as fractions.
func endNear(p, a, b api.Point, r int) bool {
	number := func(n int) *big.Rat { return new(big.Rat).SetInt64(int64(n)) }
	square := func(x, y *big.Rat) *big.Rat {
		return new(big.Rat).Add(new(big.Rat).Mul(x, x), new(big.Rat).Mul(y, y))
	}
	along := number((b.X-a.X)*(p.X-a.X) + (b.Y-a.Y)*(p.Y-a.Y))
	along.Quo(along, square(number(b.X-a.X), number(b.Y-a.Y)))
	if along.Sign() < 0 {
		along = number(0)
	} else if along.Cmp(number(1)) > 0 {
		along = number(1)
	}
	x := new(big.Rat).Sub(number(p.X-a.X), new(big.Rat).Mul(along, number(b.X-a.X)))
	y := new(big.Rat).Sub(number(p.Y-a.Y), new(big.Rat).Mul(along, number(b.Y-a.Y)))
	return square(x, y).Cmp(number(r*r)) <= 0
}

// TestP13_2_Slanted compares with exact distances on maps of parallelograms.
func TestP13_2_Slanted(t *testing.T) {
	turns := [][4]int{{1, 1, 0, 1}, {2, 1, 1, 1}, {1, 0, 3, 1}, {3, 1, 1, 2}}
	far := 0
	plans(4, 150, func(r *rand.Rand, x plan, m api.Map) {
		turn := turns[r.IntN(len(turns))]
		for i, p := range m.Points {
			m.Points[i] = api.Point{X: turn[0]*p.X + turn[1]*p.Y, Y: turn[2]*p.X + turn[3]*p.Y}
		}
		if cadastre.Check(m) == api.ErrRange {
			return // too large now
		}
		for range 4 {
			a, b := r.IntN(m.Stands), r.IntN(m.Stands)
			if a == b {
				continue
			}
			least := leastDistance(m, a, b)
			if near, e := adjacency.Close(m, a, b, least); !near || e != api.OK {
				t.Fatal(m, a, b, least, e)
			}
			if least == 0 {
				continue
			}
			far++
			if near, e := adjacency.Close(m, a, b, least-1); near || e != api.OK {
				t.Fatal(m, a, b, least-1, e)
			}
		}
	})
	if far < 50 {
		t.Error("only", far)
	}
}

func TestP13_3_Corners(t *testing.T) {
	for i, x := range []struct {
		m    api.Map
		want [][2]int
	}{
		{four(), [][2]int{{0, 3}, {1, 2}}},
		{drawn(10, "ba", "dc").draw(), [][2]int{{0, 3}, {1, 2}}},
		{row(), nil},
		{drawn(4, "a").draw(), nil},
		{drawn(3, "b.", ".a").draw(), [][2]int{{0, 1}}},
		{drawn(3, "ba", "ab").draw(), nil},
		{drawn(3, "a.bb", ".aab").draw(), nil},
		{drawn(3, "b.c", ".a.", "d.e").draw(), [][2]int{{0, 1}, {0, 2}, {0, 3}, {0, 4}}},
		{drawn(3, "aaaaa", "abbba", "abcba", "abbba", "aaaaa").draw(), nil},
		{slanted(), [][2]int{{0, 2}, {1, 2}}},
	} {
		if l, e := adjacency.Corners(x.m); !slices.Equal(l, x.want) || e != api.OK {
			t.Error(i, l, e)
		}
	}
}

func TestP13_3_Graph(t *testing.T) {
	arc := func(from, to int) api.Arc { return api.Arc{From: from, To: to, Cost: 1} }
	for i, x := range []struct {
		m    api.Map
		want []api.Arc
	}{
		{four(), []api.Arc{arc(0, 1), arc(0, 2), arc(1, 0), arc(1, 3), arc(2, 0), arc(2, 3), arc(3, 1), arc(3, 2)}},
		{row(), []api.Arc{arc(0, 1), arc(1, 0), arc(1, 2), arc(2, 1)}},
		{drawn(3, "acb").draw(), []api.Arc{arc(0, 2), arc(1, 2), arc(2, 0), arc(2, 1)}},
		{drawn(3, "aba").draw(), []api.Arc{arc(0, 1), arc(1, 0)}},
		{drawn(3, "a.b").draw(), nil},
		{drawn(3, "a").draw(), nil},
		{slanted(), []api.Arc{arc(0, 1), arc(1, 0)}},
	} {
		if g, e := adjacency.Graph(x.m); g.Nodes != x.m.Stands || !slices.Equal(g.Arcs, x.want) || e != api.OK {
			t.Error(i, g, e)
		}
	}
}

func TestP13_3_Blocks(t *testing.T) {
	for i, x := range []struct {
		m    api.Map
		set  []bool
		want []int
		e    int
	}{
		{four(), []bool{true, false, false, true}, []int{0, -1, -1, 3}, api.OK},
		{four(), []bool{true, true, false, true}, []int{0, 0, -1, 0}, api.OK},
		{four(), []bool{false, false, false, false}, []int{-1, -1, -1, -1}, api.OK},
		{four(), []bool{true, true, true, true}, []int{0, 0, 0, 0}, api.OK},
		{four(), []bool{false, true, true, true}, []int{-1, 1, 1, 1}, api.OK},
		{row(), []bool{true, false, true}, []int{0, -1, 2}, api.OK},
		{drawn(2, "dacb.efg").draw(), []bool{true, true, true, true, true, false, true}, []int{0, 0, 0, 0, 4, -1, 6}, api.OK},
		{drawn(2, "aba").draw(), []bool{true, false}, []int{0, -1}, api.OK},
		{four(), nil, nil, api.ErrForm},
		{four(), []bool{true, true, true}, nil, api.ErrForm},
		{four(), []bool{true, true, true, true, false}, nil, api.ErrForm},
	} {
		if l, e := adjacency.Blocks(x.m, x.set); !slices.Equal(l, x.want) || e != x.e {
			t.Error(i, l, e)
		}
	}
}

// consider calls a function for named and random maps.
func consider(seed uint64, count int, f func(m api.Map)) {
	for _, m := range named() {
		f(m)
	}
	plans(seed, count, func(r *rand.Rand, x plan, m api.Map) { f(m) })
}

func TestP13_4_PerimeterIsShared(t *testing.T) {
	consider(5, 100, func(m api.Map) {
		for stand := range m.Stands {
			var lengths []api.Span
			for other := outside; other < m.Stands; other++ {
				if other != stand {
					s, _ := adjacency.Shared(m, stand, other)
					lengths = append(lengths, s)
				}
			}
			want, e := interval.Sum(lengths)
			if s, f := adjacency.Perimeter(m, stand); s != want || s.Lo <= 0 || e != api.OK || f != api.OK {
				t.Fatal(m, stand, s, want, e, f)
			}
		}
	})
}

func TestP13_4_CloseWithoutDistance(t *testing.T) {
	consider(6, 100, func(m api.Map) {
		neighbours := cadastre.Neighbours(m)
		corners, e := adjacency.Corners(m)
		if e != api.OK {
			t.Fatal(m, e)
		}
		for a := range m.Stands {
			for b := a + 1; b < m.Stands; b++ {
				pair := [2]int{a, b}
				adjacent, touch := slices.Contains(neighbours, pair), slices.Contains(corners, pair)
				if near, e := adjacency.Close(m, a, b, 0); near != (adjacent || touch) || adjacent && touch || e != api.OK {
					t.Fatal(m, pair, near, adjacent, touch, e)
				}
			}
		}
	})
}

func TestP13_4_Buffers(t *testing.T) {
	consider(7, 20, func(m api.Map) {
		before := make([][]int, m.Stands)
		for _, r := range []int{0, 1, 3, 10, 40, 1000, 15000, 60000, 200000} {
			buffers := make([][]int, m.Stands)
			for stand := range m.Stands {
				buffers[stand], _ = adjacency.Buffer(m, stand, r)
				for _, other := range before[stand] {
					if !slices.Contains(buffers[stand], other) {
						t.Fatal(m, stand, other, r)
					}
				}
			}
			for a := range m.Stands {
				for b := range m.Stands {
					if slices.Contains(buffers[a], b) != slices.Contains(buffers[b], a) {
						t.Fatal(m, a, b, r)
					}
				}
			}
			before = buffers
		}
		for stand, l := range before {
			if len(l) != m.Stands-1 || slices.Contains(l, stand) {
				t.Fatal(m, stand, l)
			}
		}
	})
}

func TestP13_4_BlocksAreComponents(t *testing.T) {
	consider(8, 200, func(m api.Map) {
		g, e := adjacency.Graph(m)
		if e != api.OK || graph.Check(g) != api.OK {
			t.Fatal(m, g, e)
		}
		var pairs [][2]int
		for _, a := range g.Arcs {
			pairs = append(pairs, [2]int{a.From, a.To})
		}
		want, _ := graph.Components(g.Nodes, pairs)
		blocks, e := adjacency.Blocks(m, slices.Repeat([]bool{true}, m.Stands))
		if !slices.Equal(blocks, want) || e != api.OK {
			t.Fatal(m, blocks, want, e)
		}
	})
}
