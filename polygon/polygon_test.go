package polygon_test

import (
	"maps"
	"math"
	"math/big"
	"math/rand/v2"
	"slices"
	"testing"

	"coupe/api"
	"coupe/polygon"
)

const (
	least = -1 << 63
	most  = 1<<63 - 1
	far   = api.MaxCoord
)

func at(x, y int) api.Point {
	return api.Point{X: x, Y: y}
}

// example returns the polygon of the chapter.
func example() []api.Point {
	return []api.Point{at(0, 0), at(4, 0), at(4, 3), at(2, 1), at(0, 3)}
}

// named are polygons without an error.
func named() map[string][]api.Point {
	var fan []api.Point
	for i := range api.MaxPoints - 1 {
		fan = append(fan, at(i*1000, (i*i)%7))
	}
	return map[string][]api.Point{
		"of the chapter":             example(),
		"triangle":                   {at(0, 0), at(1, 0), at(0, 1)},
		"clockwise triangle":         {at(0, 0), at(0, 1), at(1, 0)},
		"the whole map":              {at(0, 0), at(far, 0), at(far, far), at(0, far)},
		"flat points":                {at(0, 0), at(1, 0), at(2, 0), at(4, 0), at(4, 4), at(2, 4), at(0, 4), at(0, 1)},
		"flat points on one side":    {at(2, 2), at(1, 1), at(0, 0), at(4, 0), at(4, 4), at(3, 3)},
		"a dent from a side":         {at(0, 0), at(2, 0), at(2, 3), at(3, 0), at(5, 0), at(5, 5), at(0, 5)},
		"thin":                       {at(0, 0), at(far, far-1), at(far-1, far-2)},
		"spiral":                     {at(0, 0), at(9, 0), at(9, 9), at(2, 9), at(2, 4), at(4, 4), at(4, 7), at(7, 7), at(7, 2), at(0, 2)},
		"many points":                append(fan, at(0, far)),
		"many points, the other way": append([]api.Point{at(0, far)}, reversed(fan)...),
	}
}

func reversed(p []api.Point) []api.Point {
	l := slices.Clone(p)
	slices.Reverse(l)
	return l
}

// grow makes a polygon by putting points between others where that makes no error; where the range is small, many points are in line.
func grow(r *rand.Rand, points, greatest int) []api.Point {
	random := func() api.Point { return at(r.IntN(greatest+1), r.IntN(greatest+1)) }
	p := []api.Point{random(), random(), random()}
	for polygon.Check(p) != api.OK {
		p = []api.Point{random(), random(), random()}
	}
	for tries := 0; len(p) < points && tries < 20*points; tries++ {
		if longer := slices.Insert(slices.Clone(p), r.IntN(len(p)+1), random()); polygon.Check(longer) == api.OK {
			p = longer
		}
	}
	return p
}

// polygons are the named ones and random ones of all sizes.
func polygons(seed uint64) [][]api.Point {
	r := rand.New(rand.NewPCG(9, seed))
	var l [][]api.Point
	all := named()
	for _, name := range slices.Sorted(maps.Keys(all)) {
		l = append(l, all[name], reversed(all[name]))
	}
	for i := range 400 {
		l = append(l, grow(r, 3+i%20, 4+i%9), grow(r, 3+i%13, far))
	}
	for range 8 {
		l = append(l, grow(r, api.MaxPoints, 30), grow(r, api.MaxPoints, far))
	}
	return l
}

// lists returns all lists of n points of a grid of 3 by 3.
func lists(n int) [][]api.Point {
	l := [][]api.Point{nil}
	for range n {
		var longer [][]api.Point
		for _, p := range l {
			for i := range 9 {
				longer = append(longer, append(slices.Clone(p), at(i%3, i/3)))
			}
		}
		l = longer
	}
	return l
}

// faulty are lists with an error, with it.
func faulty() []struct {
	name string
	p    []api.Point
	e    int
} {
	var row, many []api.Point
	for i := range api.MaxPoints {
		row = append(row, at(i, i*i))
	}
	many = append(slices.Clone(row), at(0, far))
	return []struct {
		name string
		p    []api.Point
		e    int
	}{
		{"none", nil, api.ErrForm},
		{"one", []api.Point{at(1, 1)}, api.ErrForm},
		{"two", []api.Point{at(0, 0), at(1, 1)}, api.ErrForm},
		{"two that are not valid and equal", []api.Point{at(-1, 0), at(-1, 0)}, api.ErrForm},
		{"too many", many, api.ErrLimit},
		{"too many, not valid and equal", append(slices.Clone(row), at(-1, 0), at(-1, 0)), api.ErrLimit},
		{"below the map", []api.Point{at(0, 0), at(1, -1), at(0, 1)}, api.ErrRange},
		{"left of the map", []api.Point{at(-1, 0), at(1, 0), at(0, 1)}, api.ErrRange},
		{"above the map", []api.Point{at(0, 0), at(1, 0), at(0, far+1)}, api.ErrRange},
		{"right of the map", []api.Point{at(0, 0), at(far+1, 0), at(0, 1)}, api.ErrRange},
		{"far outside", []api.Point{at(0, 0), at(most, least), at(least, most)}, api.ErrRange},
		{"not valid, and others equal", []api.Point{at(0, 0), at(0, 0), at(1, 0), at(0, -1)}, api.ErrRange},
		{"not valid, and others on a line", []api.Point{at(0, 0), at(1, 1), at(2, 2), at(-3, -3)}, api.ErrRange},
		{"not valid and equal", []api.Point{at(0, 0), at(0, -1), at(0, -1)}, api.ErrRange},
		{"equal neighbours", []api.Point{at(0, 0), at(1, 0), at(1, 0), at(0, 1)}, api.ErrExist},
		{"equal first and last", []api.Point{at(0, 0), at(1, 0), at(0, 1), at(0, 0)}, api.ErrExist},
		{"all equal", []api.Point{at(1, 1), at(1, 1), at(1, 1)}, api.ErrExist},
		{"equal ones far from each other", []api.Point{at(2, 2), at(0, 0), at(4, 0), at(2, 2), at(4, 4), at(0, 4)}, api.ErrExist},
		{"equal, and sides cross", []api.Point{at(0, 0), at(4, 4), at(4, 0), at(0, 4), at(0, 0)}, api.ErrExist},
		{"on a line", []api.Point{at(0, 0), at(1, 1), at(2, 2)}, api.ErrOrder},
		{"on a line, the middle first", []api.Point{at(1, 1), at(0, 0), at(2, 2)}, api.ErrOrder},
		{"four on a line", []api.Point{at(0, 0), at(1, 0), at(3, 0), at(2, 0)}, api.ErrOrder},
		{"sides cross", []api.Point{at(0, 0), at(4, 4), at(4, 0), at(0, 4)}, api.ErrOrder},
		{"a point on a side that is not a neighbour", []api.Point{at(0, 0), at(4, 0), at(4, 4), at(2, 0), at(0, 4)}, api.ErrOrder},
		{"sides overlap that are not neighbours", []api.Point{at(0, 0), at(6, 0), at(6, 2), at(4, 0), at(2, 0), at(0, 2)}, api.ErrOrder},
		{"neighbours overlap", []api.Point{at(0, 0), at(4, 0), at(2, 0), at(2, 3)}, api.ErrOrder},
		{"the last side overlaps the first", []api.Point{at(0, 0), at(4, 0), at(4, 4), at(2, 0)}, api.ErrOrder},
		{"the last side overlaps the one before", []api.Point{at(2, 0), at(2, 3), at(0, 0), at(4, 0)}, api.ErrOrder},
		{"the last side is crossed", []api.Point{at(0, 4), at(4, 0), at(4, 4), at(1, 1), at(0, 0)}, api.ErrOrder},
	}
}

// answers returns what all functions that return the errors of Check answer, with their errors; q is valid.
func answers(p []api.Point, q api.Point) (something bool, errors []int) {
	area2, e1 := polygon.Area2(p)
	direction, e2 := polygon.Direction(p)
	place, e3 := polygon.Contains(p, q)
	perimeter, e4 := polygon.Perimeter(p)
	triangles, e5 := polygon.Triangles(p)
	low, high, e6 := polygon.Box(p)
	convex := polygon.Convex(p)
	something = area2 != 0 || direction != 0 || place != 0 || perimeter != api.Span{} || triangles != nil || low != at(0, 0) || high != at(0, 0) || convex
	return something, []int{e1, e2, e3, e4, e5, e6}
}

// TestP1_AnyArguments calls all functions with arguments of any form: none panics, and beside an error there is nothing else.
func TestP1_AnyArguments(t *testing.T) {
	r := rand.New(rand.NewPCG(9, 1))
	numbers := []int{least, -1, 0, 1, 2, 3, far, far + 1, most}
	random := func() api.Point { return at(numbers[r.IntN(len(numbers))], numbers[r.IntN(len(numbers))]) }
	for range 50000 {
		p := make([]api.Point, r.IntN(8))
		for i := range p {
			p[i] = random()
		}
		q := random()
		something, errors := answers(p, q)
		e := polygon.Check(p)
		if e != api.OK && something {
			t.Fatal(p, "results beside the error", e)
		}
		for i, f := range errors {
			if f != e && i != 2 {
				t.Fatal(p, i, f)
			}
		}
		if hull, e := polygon.Hull(p); (e != api.OK) != (hull == nil) {
			t.Fatal(p, hull, e)
		}
	}
}

func TestP1_ArgumentsAreKept(t *testing.T) {
	p := append(make([]api.Point, 0, 8), reversed(example())...)
	spare := p[:8]
	spare[5], spare[6] = at(3, 3), at(-1, -1)
	kept := slices.Clone(spare)
	for range 2 {
		answers(p, at(1, 1))
		hull, e := polygon.Hull(p)
		if !slices.Equal(hull, []api.Point{at(0, 0), at(4, 0), at(4, 3), at(0, 3)}) || e != api.OK {
			t.Error(hull, e)
		}
		triangles, e := polygon.Triangles(p)
		if len(triangles) != 3 || triangles[0] != [3]int{4, 0, 1} || e != api.OK {
			t.Error(triangles, e)
		}
		// Results are the caller's: what is done with them does not show in later ones.
		clear(hull)
		clear(triangles)
	}
	if !slices.Equal(spare, kept) {
		t.Error("arguments were changed")
	}
}

func TestP9_1_Check(t *testing.T) {
	for name, p := range named() {
		if e := polygon.Check(p); e != api.OK {
			t.Error(name, e)
		}
		if e := polygon.Check(reversed(p)); e != api.OK {
			t.Error(name, "reversed", e)
		}
	}
	for _, x := range faulty() {
		if e := polygon.Check(x.p); e != x.e {
			t.Error(x.name, e)
		}
	}
}

// TestP9_1_First finds that the other functions return the error of Check first.
func TestP9_1_First(t *testing.T) {
	for _, x := range faulty() {
		for _, q := range []api.Point{at(1, 1), at(-1, 0), at(0, most)} {
			something, errors := answers(x.p, q)
			if something {
				t.Error(x.name, "results beside the error")
			}
			for i, e := range errors {
				if e != x.e {
					t.Error(x.name, q, i, e)
				}
			}
		}
	}
}

// common counts the common points of two sides with ends on a grid of 3 by 3, up to 2. On such sides, points with fractions of 840 in common are all there are, or ends are among several of them.
func common(a, b, c, d api.Point) int {
	const parts = 840
	on := func(a, b api.Point, k int) api.Point { return at(parts*a.X+k*(b.X-a.X), parts*a.Y+k*(b.Y-a.Y)) }
	first := map[api.Point]bool{}
	for k := range parts + 1 {
		first[on(a, b, k)] = true
	}
	n := 0
	for k := range parts + 1 {
		if first[on(c, d, k)] {
			n++
		}
	}
	return min(n, 2)
}

// TestP9_1_Definition counts the common points of the sides of all lists of up to five points of a small grid.
func TestP9_1_Definition(t *testing.T) {
	known := map[[4]api.Point]int{}
	count := func(a, b, c, d api.Point) int {
		n, ok := known[[4]api.Point{a, b, c, d}]
		if !ok {
			n = common(a, b, c, d)
			known[[4]api.Point{a, b, c, d}] = n
		}
		return n
	}
	want := func(p []api.Point) int {
		n, e := len(p), api.OK
		for i := range n {
			for j := range i {
				if p[i] == p[j] {
					return api.ErrExist
				}
				points, permitted := count(p[i], p[(i+1)%n], p[j], p[(j+1)%n]), 0
				if i-j == 1 || i-j == n-1 {
					permitted = 1
				}
				if points > permitted {
					e = api.ErrOrder
				}
			}
		}
		return e
	}
	valid := 0
	for n := 3; n <= 5; n++ {
		for _, p := range lists(n) {
			e := polygon.Check(p)
			if e != want(p) {
				t.Fatal(p, e)
			}
			if e == api.OK {
				valid++
			}
		}
	}
	if valid < 3000 {
		t.Error("only", valid)
	}
}

// shoelace returns twice the area, below 0 if the points are listed clockwise.
func shoelace(p []api.Point) int {
	total := 0
	for i, a := range p {
		b := p[(i+1)%len(p)]
		total += a.X*b.Y - a.Y*b.X
	}
	return total
}

func sign(n int) int {
	switch {
	case n > 0:
		return 1
	case n < 0:
		return -1
	}
	return 0
}

func TestP9_2_Examples(t *testing.T) {
	for _, x := range []struct {
		name      string
		p         []api.Point
		area2     int
		direction int
		perimeter api.Span
		low, high api.Point
		convex    bool
	}{
		{"of the chapter", example(), 16, 1, api.Span{Lo: 14, Hi: 16}, at(0, 0), at(4, 3), false},
		{"of the chapter, the other way", reversed(example()), 16, -1, api.Span{Lo: 14, Hi: 16}, at(0, 0), at(4, 3), false},
		{"clockwise triangle", []api.Point{at(3, 5), at(3, 6), at(4, 5)}, 1, -1, api.Span{Lo: 3, Hi: 4}, at(3, 5), at(4, 6), true},
		{"flat points", named()["flat points"], 32, 1, api.Span{Lo: 16, Hi: 16}, at(0, 0), at(4, 4), true},
		{"the whole map", named()["the whole map"], 2 * far * far, 1, api.Span{Lo: 4 * far, Hi: 4 * far}, at(0, 0), at(far, far), true},
		{"thin", named()["thin"], 1, -1, api.Span{Lo: 141420 + 1 + 141419, Hi: 141421 + 2 + 141420}, at(0, 0), at(far, far-1), true},
		{"an arrow", []api.Point{at(5, 1), at(9, 9), at(5, 7), at(1, 9)}, 48, 1, api.Span{Lo: 24, Hi: 28}, at(1, 1), at(9, 9), false},
	} {
		if n, e := polygon.Area2(x.p); n != x.area2 || e != api.OK {
			t.Error(x.name, "Area2", n, e)
		}
		if n, e := polygon.Direction(x.p); n != x.direction || e != api.OK {
			t.Error(x.name, "Direction", n, e)
		}
		if s, e := polygon.Perimeter(x.p); s != x.perimeter || e != api.OK {
			t.Error(x.name, "Perimeter", s, e)
		}
		if low, high, e := polygon.Box(x.p); low != x.low || high != x.high || e != api.OK {
			t.Error(x.name, "Box", low, high, e)
		}
		if yes := polygon.Convex(x.p); yes != x.convex {
			t.Error(x.name, "Convex", yes)
		}
	}
	for _, x := range faulty() {
		if polygon.Convex(x.p) {
			t.Error(x.name, "is convex")
		}
	}
}

// root returns the greatest integer whose square is not above a number.
func root(n int) int {
	return int(new(big.Int).Sqrt(big.NewInt(int64(n))).Int64())
}

// wantPerimeter adds up the bounds of the lengths of the sides.
func wantPerimeter(p []api.Point) api.Span {
	var s api.Span
	for i, a := range p {
		b := p[(i+1)%len(p)]
		square := (a.X-b.X)*(a.X-b.X) + (a.Y-b.Y)*(a.Y-b.Y)
		s.Lo += root(square)
		s.Hi += root(square-1) + 1
	}
	return s
}

// wantConvex reports whether no point lies on the wrong side of the line through two neighbours.
func wantConvex(p []api.Point) bool {
	for i, a := range p {
		for _, q := range p {
			if sign(shoelace([]api.Point{a, p[(i+1)%len(p)], q})) == -sign(shoelace(p)) {
				return false
			}
		}
	}
	return true
}

func TestP9_2_Definitions(t *testing.T) {
	convex := 0
	for _, p := range polygons(2) {
		area2 := shoelace(p)
		if n, e := polygon.Area2(p); n != area2*sign(area2) || e != api.OK {
			t.Fatal("Area2", p, n, e)
		}
		if n, e := polygon.Direction(p); n != sign(area2) || e != api.OK {
			t.Fatal("Direction", p, n, e)
		}
		if s, e := polygon.Perimeter(p); s != wantPerimeter(p) || e != api.OK {
			t.Fatal("Perimeter", p, s, e)
		}
		var x, y []int
		for _, q := range p {
			x, y = append(x, q.X), append(y, q.Y)
		}
		if low, high, e := polygon.Box(p); low != at(slices.Min(x), slices.Min(y)) || high != at(slices.Max(x), slices.Max(y)) || e != api.OK {
			t.Fatal("Box", p, low, high, e)
		}
		yes := polygon.Convex(p)
		if yes != wantConvex(p) {
			t.Fatal("Convex", p, yes)
		}
		if yes && len(p) > 3 {
			convex++
		}
	}
	if convex < 20 {
		t.Error("only", convex)
	}
}

// wantPlace turns from a point around the whole boundary: once if the point is inside, and not at all if it is outside.
func wantPlace(p []api.Point, q api.Point) int {
	around := 0.0
	for i, a := range p {
		b := p[(i+1)%len(p)]
		cross := shoelace([]api.Point{q, a, b})
		dot := (a.X-q.X)*(b.X-q.X) + (a.Y-q.Y)*(b.Y-q.Y)
		if cross == 0 && dot <= 0 {
			return 0
		}
		around += math.Atan2(float64(cross), float64(dot))
	}
	if math.Abs(around) > math.Pi {
		return 1
	}
	return -1
}

func TestP9_3_Contains(t *testing.T) {
	spiral := named()["spiral"]
	for _, x := range []struct {
		name string
		p    []api.Point
		q    api.Point
		want int
	}{
		{"on a dent", example(), at(2, 1), 0},
		{"inside", example(), at(1, 1), 1},
		{"in a dent", example(), at(2, 2), -1},
		{"on a corner", example(), at(0, 0), 0},
		{"on a side", example(), at(0, 2), 0},
		{"on a sloping side", example(), at(3, 2), 0},
		{"on the line of a side", example(), at(5, 0), -1},
		{"at the height of a corner, outside", example(), at(0, 4), -1},
		{"at the height of two corners, between them", example(), at(2, 3), -1},
		{"at the height of a dent, on its left", example(), at(1, 1), 1},
		{"at the height of a dent, on its right", example(), at(3, 1), 1},
		{"within the windings", spiral, at(3, 5), 1},
		{"between the windings", spiral, at(5, 5), -1},
		{"in the outer winding", spiral, at(8, 8), 1},
		{"at the height of a level side, on its left", spiral, at(3, 7), 1},
		{"at the height of a level side, on its right", spiral, at(8, 7), 1},
		{"at the height of a level side, outside", spiral, at(1, 7), -1},
		{"in the corner of the map", named()["the whole map"], at(far, far), 0},
		{"in the middle of the map", named()["the whole map"], at(50000, 1), 1},
		{"below a point of a diamond", []api.Point{at(0, 2), at(2, 0), at(4, 2), at(2, 4)}, at(0, 0), -1},
		{"at the height of the points of a diamond, inside", []api.Point{at(0, 2), at(2, 0), at(4, 2), at(2, 4)}, at(1, 2), 1},
		{"at the height of the points of a diamond, outside", []api.Point{at(1, 2), at(2, 0), at(4, 2), at(2, 4)}, at(0, 2), -1},
	} {
		for _, p := range [][]api.Point{x.p, reversed(x.p)} {
			if n, e := polygon.Contains(p, x.q); n != x.want || e != api.OK {
				t.Error(x.name, n, e)
			}
		}
	}
	for _, q := range []api.Point{at(-1, 0), at(0, -1), at(far+1, 0), at(0, far+1), at(least, most)} {
		if n, e := polygon.Contains(example(), q); n != 0 || e != api.ErrRange {
			t.Error(q, n, e)
		}
	}
}

// TestP9_3_Definition looks for points everywhere, above all at the heights of the points of the polygon.
func TestP9_3_Definition(t *testing.T) {
	r := rand.New(rand.NewPCG(9, 3))
	var places [3]int
	for _, p := range polygons(3) {
		low, high, _ := polygon.Box(p)
		for range 40 {
			q := at(low.X+r.IntN(high.X-low.X+1), low.Y+r.IntN(high.Y-low.Y+1))
			a, b := p[r.IntN(len(p))], p[r.IntN(len(p))]
			switch r.IntN(4) {
			case 0:
				q.Y = a.Y
			case 1:
				q = at((a.X+b.X)/2, (a.Y+b.Y)/2)
			case 2:
				q = at(r.IntN(far+1), a.Y)
			}
			n, e := polygon.Contains(p, q)
			if n != wantPlace(p, q) || e != api.OK {
				t.Fatal(p, q, n, e)
			}
			places[n+1]++
		}
	}
	if slices.Min(places[:]) < 1000 {
		t.Error("only", places)
	}
}

func TestP9_4_Hull(t *testing.T) {
	square := []api.Point{at(0, 0), at(2, 0), at(2, 2), at(0, 2)}
	for _, x := range []struct {
		name string
		l    []api.Point
		want []api.Point
	}{
		{"of the chapter", example(), []api.Point{at(0, 0), at(4, 0), at(4, 3), at(0, 3)}},
		{"triangle", []api.Point{at(0, 1), at(1, 0), at(0, 0)}, []api.Point{at(0, 0), at(1, 0), at(0, 1)}},
		{"points on the sides and inside", []api.Point{at(1, 2), at(2, 2), at(0, 1), at(1, 1), at(0, 2), at(2, 0), at(2, 1), at(0, 0), at(1, 0)}, square},
		{"points again", []api.Point{at(2, 2), at(0, 0), at(0, 2), at(2, 2), at(2, 0), at(0, 0), at(2, 0), at(0, 2), at(0, 0)}, square},
		{"the least X first", []api.Point{at(3, 0), at(0, 3), at(3, 6), at(6, 3)}, []api.Point{at(0, 3), at(3, 0), at(6, 3), at(3, 6)}},
		{"of the least X the least Y", []api.Point{at(1, 7), at(1, 3), at(5, 0), at(1, 5)}, []api.Point{at(1, 3), at(5, 0), at(1, 7)}},
		{"the whole map", []api.Point{at(far, far), at(far-1, 1), at(far, 0), at(0, far), at(0, 0), at(1, 1)}, named()["the whole map"]},
		{"thin", named()["thin"], []api.Point{at(0, 0), at(far-1, far-2), at(far, far-1)}},
	} {
		if got, e := polygon.Hull(x.l); !slices.Equal(got, x.want) || e != api.OK {
			t.Error(x.name, got, e)
		}
		if got, e := polygon.Hull(reversed(x.l)); !slices.Equal(got, x.want) || e != api.OK {
			t.Error(x.name, "reversed", got, e)
		}
	}
}

func TestP9_4_Errors(t *testing.T) {
	full := slices.Repeat([]api.Point{at(1, 2), at(1, 1), at(2, 1), at(2, 2)}, api.MaxPoints/4)
	if got, e := polygon.Hull(full); !slices.Equal(got, []api.Point{at(1, 1), at(2, 1), at(2, 2), at(1, 2)}) || e != api.OK {
		t.Error("as many as there may be", got, e)
	}
	for _, x := range []struct {
		name string
		l    []api.Point
		e    int
	}{
		{"too many", append(slices.Clone(full), at(1, 1)), api.ErrLimit},
		{"too many that are not valid", slices.Repeat([]api.Point{at(-1, 0)}, api.MaxPoints+1), api.ErrLimit},
		{"not valid", append(example(), at(far+1, 0)), api.ErrRange},
		{"the first one not valid", append([]api.Point{at(0, -1)}, example()...), api.ErrRange},
		{"not valid, and on a line", []api.Point{at(0, 0), at(-1, 0), at(1, 0)}, api.ErrRange},
		{"one that is not valid", []api.Point{at(least, most)}, api.ErrRange},
		{"none", nil, api.ErrArg},
		{"one", []api.Point{at(1, 1)}, api.ErrArg},
		{"two", []api.Point{at(1, 1), at(2, 5)}, api.ErrArg},
		{"one again", []api.Point{at(1, 1), at(1, 1), at(1, 1), at(1, 1)}, api.ErrArg},
		{"two again", []api.Point{at(1, 1), at(2, 5), at(1, 1), at(2, 5)}, api.ErrArg},
		{"on a line", []api.Point{at(2, 2), at(0, 0), at(9, 9), at(1, 1), at(2, 2)}, api.ErrArg},
		{"on a level line", []api.Point{at(2, 7), at(0, 7), at(9, 7)}, api.ErrArg},
		{"on an upright line", []api.Point{at(7, 2), at(7, 0), at(7, 9)}, api.ErrArg},
		{"on a long line", []api.Point{at(far, far), at(50000, 50000), at(0, 0)}, api.ErrArg},
	} {
		if got, e := polygon.Hull(x.l); got != nil || e != x.e {
			t.Error(x.name, got, e)
		}
	}
}

// checkHull finds the properties that only the hull has.
func checkHull(t *testing.T, l []api.Point) bool {
	t.Helper()
	got, e := polygon.Hull(l)
	if e == api.ErrArg {
		for _, a := range l {
			for _, b := range l {
				if shoelace([]api.Point{l[0], a, b}) != 0 {
					t.Fatal(l, "are not on a line")
				}
			}
		}
		return false
	}
	if e != api.OK || len(got) < 3 {
		t.Fatal(l, got, e)
	}
	for i, a := range got {
		b, c := got[(i+1)%len(got)], got[(i+2)%len(got)]
		if shoelace([]api.Point{a, b, c}) <= 0 || !slices.Contains(l, a) {
			t.Fatal(l, got, i)
		}
		for _, q := range l {
			if shoelace([]api.Point{a, b, q}) < 0 {
				t.Fatal(l, got, q)
			}
		}
		if a.X < got[0].X || a.X == got[0].X && a.Y < got[0].Y {
			t.Fatal(l, got, "begins with the wrong corner")
		}
	}
	return true
}

func TestP9_4_Definition(t *testing.T) {
	hulls := 0
	count := func(l []api.Point) {
		if checkHull(t, l) {
			hulls++
		}
	}
	for n := 1; n <= 5; n++ {
		for _, l := range lists(n) {
			count(l)
		}
	}
	r := rand.New(rand.NewPCG(9, 4))
	for i := range 4000 {
		greatest := []int{2, 6, 40, far}[i%4]
		l := make([]api.Point, 1+r.IntN(api.MaxPoints))
		for j := range l {
			l[j] = at(r.IntN(greatest+1), r.IntN(greatest+1))
		}
		count(l)
	}
	if hulls < 50000 {
		t.Error("only", hulls)
	}
}

// size returns twice the area of the triangle of three numbered points.
func size(p []api.Point, a, b, c int) int {
	n := shoelace([]api.Point{p[a], p[b], p[c]})
	return n * sign(n)
}

// isEar reports whether an element of the list of numbers of points is an ear. A point is inside or on the boundary of a triangle if the triangles that it forms with the sides have no greater area together.
func isEar(p []api.Point, list []int, i int) bool {
	n := len(list)
	a, b, c := list[(i+n-1)%n], list[i], list[(i+1)%n]
	if sign(shoelace([]api.Point{p[a], p[b], p[c]})) != sign(shoelace(p)) {
		return false
	}
	for _, q := range list {
		if q != a && q != b && q != c && size(p, a, b, q)+size(p, b, c, q)+size(p, c, a, q) == size(p, a, b, c) {
			return false
		}
	}
	return true
}

// wantTriangles follows the definition.
func wantTriangles(p []api.Point) [][3]int {
	var list []int
	for i := range p {
		list = append(list, i)
	}
	var triangles [][3]int
	for n := len(list); n > 3; n-- {
		i := 0
		for !isEar(p, list, i) {
			i++
		}
		triangles = append(triangles, [3]int{list[(i+n-1)%n], list[i], list[(i+1)%n]})
		list = append(slices.Clone(list[:i]), list[i+1:]...)
	}
	return append(triangles, [3]int(list))
}

func TestP9_5_Triangles(t *testing.T) {
	for _, x := range []struct {
		name string
		p    []api.Point
		want [][3]int
	}{
		{"of the chapter", example(), [][3]int{{1, 2, 3}, {0, 1, 3}, {0, 3, 4}}},
		{"triangle", []api.Point{at(0, 0), at(1, 0), at(0, 1)}, [][3]int{{0, 1, 2}}},
		{"clockwise triangle", []api.Point{at(0, 0), at(0, 1), at(1, 0)}, [][3]int{{0, 1, 2}}},
		{"the first one is an ear", named()["the whole map"], [][3]int{{3, 0, 1}, {1, 2, 3}}},
		{"clockwise", reversed(named()["the whole map"]), [][3]int{{3, 0, 1}, {1, 2, 3}}},
		{"a flat point is no ear", []api.Point{at(2, 0), at(4, 0), at(4, 4), at(0, 0)}, [][3]int{{0, 1, 2}, {0, 2, 3}}},
		{"a point on the boundary of the triangle", []api.Point{at(4, 0), at(4, 4), at(2, 2), at(0, 0)}, [][3]int{{0, 1, 2}, {0, 2, 3}}},
		{"the last one is an ear", []api.Point{at(2, 1), at(0, 3), at(0, 0), at(4, 0), at(4, 3)}, [][3]int{{0, 1, 2}, {0, 2, 3}, {0, 3, 4}}},
	} {
		if got, e := polygon.Triangles(x.p); !slices.Equal(got, x.want) || e != api.OK {
			t.Error(x.name, got, e)
		}
	}
}

// TestP9_5_Definition follows the definition with all polygons of a small grid, and with others.
func TestP9_5_Definition(t *testing.T) {
	check := func(p []api.Point) {
		t.Helper()
		if got, e := polygon.Triangles(p); !slices.Equal(got, wantTriangles(p)) || e != api.OK {
			t.Fatal(p, got, e)
		}
	}
	for _, p := range polygons(5) {
		check(p)
	}
	for n := 3; n <= 5; n++ {
		for _, p := range lists(n) {
			if polygon.Check(p) == api.OK {
				check(p)
			}
		}
	}
}

// TestP9_6_Triangles finds that the triangles have the area and the direction of the polygon.
func TestP9_6_Triangles(t *testing.T) {
	for _, p := range polygons(61) {
		area2, _ := polygon.Area2(p)
		direction, _ := polygon.Direction(p)
		triangles, e := polygon.Triangles(p)
		if len(triangles) != len(p)-2 || e != api.OK {
			t.Fatal(p, triangles, e)
		}
		for _, x := range triangles {
			n := shoelace([]api.Point{p[x[0]], p[x[1]], p[x[2]]})
			if sign(n) != direction {
				t.Fatal(p, x)
			}
			area2 -= n * direction
		}
		if area2 != 0 {
			t.Fatal(p, area2)
		}
	}
}

// TestP9_6_Beginning begins the list at other points, and reverses it.
func TestP9_6_Beginning(t *testing.T) {
	for _, p := range polygons(62) {
		area2, _ := polygon.Area2(p)
		direction, _ := polygon.Direction(p)
		for i := range p {
			turned := append(slices.Clone(p[i:]), p[:i]...)
			for _, x := range []struct {
				p         []api.Point
				direction int
			}{{turned, direction}, {reversed(turned), -direction}} {
				n, e := polygon.Area2(x.p)
				d, f := polygon.Direction(x.p)
				if n != area2 || d != x.direction || e != api.OK || f != api.OK {
					t.Fatal(p, i, n, d, e, f)
				}
			}
		}
	}
}

func TestP9_6_Hull(t *testing.T) {
	for _, p := range polygons(63) {
		hull, e := polygon.Hull(p)
		if direction, f := polygon.Direction(hull); direction != 1 || !polygon.Convex(hull) || e != api.OK || f != api.OK {
			t.Fatal(p, hull, e, f)
		}
		for _, q := range p {
			if place, e := polygon.Contains(hull, q); place < 0 || e != api.OK {
				t.Fatal(p, hull, q, place, e)
			}
		}
		if again, e := polygon.Hull(hull); !slices.Equal(again, hull) || e != api.OK {
			t.Fatal(hull, again, e)
		}
	}
}

// TestP9_6_Pick counts the points with integer coordinates inside polygons and on their boundaries.
func TestP9_6_Pick(t *testing.T) {
	check := func(p []api.Point) {
		t.Helper()
		low, high, _ := polygon.Box(p)
		inside, boundary := 0, 0
		for x := max(low.X-1, 0); x <= high.X+1; x++ {
			for y := max(low.Y-1, 0); y <= high.Y+1; y++ {
				switch place, _ := polygon.Contains(p, at(x, y)); place {
				case 1:
					inside++
				case 0:
					boundary++
				}
			}
		}
		if area2, e := polygon.Area2(p); area2 != 2*inside+boundary-2 || e != api.OK {
			t.Fatal(p, area2, inside, boundary, e)
		}
	}
	r := rand.New(rand.NewPCG(9, 6))
	for i := range 600 {
		check(grow(r, 3+i%24, 3+i%10))
	}
	for n := 3; n <= 4; n++ {
		for _, p := range lists(n) {
			if polygon.Check(p) == api.OK {
				check(p)
			}
		}
	}
}
