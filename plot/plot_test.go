package plot_test

import (
	"math/big"
	"math/rand/v2"
	"reflect"
	"slices"
	"testing"

	"coupe/api"
	"coupe/cadastre"
	"coupe/plot"
)

const (
	lowest  = -1 << 63
	highest = 1<<63 - 1
	far     = api.MaxCoord
)

// at returns the point with these coordinates.
func at(x, y int) api.Point {
	return api.Point{X: x, Y: y}
}

// circle returns the plot with this center.
func circle(x, y, radius int) api.Circle {
	return api.Circle{Center: at(x, y), Radius: radius}
}

// stems returns stems at positions, each given by its two coordinates. Their trees have errors, which do not matter.
func stems(numbers ...int) []api.Stem {
	var l []api.Stem
	for pair := range slices.Chunk(numbers, 2) {
		l = append(l, api.Stem{At: at(pair[0], pair[1]), Tree: api.Tree{Species: -1, Diameter: highest, Height: lowest, Quality: 9}})
	}
	return l
}

// places returns stems at points.
func places(l []api.Point) []api.Stem {
	var all []api.Stem
	for _, p := range l {
		all = append(all, api.Stem{At: p})
	}
	return all
}

func span(lo, hi int) api.Span {
	return api.Span{Lo: lo, Hi: hi}
}

// must returns a result that has no error.
func must[T any](result T, e int) T {
	if e != api.OK {
		panic(e)
	}
	return result
}

// wrong returns points that are not valid.
func wrong() []api.Point {
	return []api.Point{at(-1, 0), at(0, -1), at(far+1, 0), at(0, far+1), at(lowest, 5), at(5, lowest), at(highest, 5), at(5, highest), at(highest, lowest)}
}

// twoStands returns the map of two squares side by side, whose corners are (10, 10), (14, 10), (18, 14) and so on.
func twoStands() api.Map {
	return api.Map{
		Points: []api.Point{at(10, 10), at(14, 10), at(18, 10), at(18, 14), at(14, 14), at(10, 14)},
		Edges: []api.Edge{
			{A: 0, B: 1, Left: 0, Right: -1}, {A: 1, B: 2, Left: 1, Right: -1}, {A: 2, B: 3, Left: 1, Right: -1},
			{A: 3, B: 4, Left: 1, Right: -1}, {A: 4, B: 5, Left: 0, Right: -1}, {A: 5, B: 0, Left: 0, Right: -1}, {A: 1, B: 4, Left: 0, Right: 1},
		},
		Stands: 2,
	}
}

// answers returns what all functions return for some arguments.
func answers(m api.Map, c api.Circle, a, b, p api.Point, l []api.Stem, count int) (results []any, errors []int) {
	note := func(result any, e int) {
		results, errors = append(results, result), append(errors, e)
	}
	area2, e := plot.Area2(c.Radius)
	note(area2, e)
	tally, e := plot.Tally(c, l)
	note(tally, e)
	weight, e := plot.Weight(c, a, b, p)
	note(weight, e)
	weights, e := plot.Mirage(c, a, b, l)
	note(weights, e)
	stems, e := plot.PerHectare(count, c.Radius)
	note(stems, e)
	counts, e := plot.ByStand(m, c, l)
	note(counts, e)
	return results, errors
}

// checkNothingBesideErrors finds that beside each error the result is the zero value or an empty list.
func checkNothingBesideErrors(t *testing.T, results []any, errors []int) {
	t.Helper()
	for i, e := range errors {
		value := reflect.ValueOf(results[i])
		if e != api.OK && !value.IsZero() && !(value.Kind() == reflect.Slice && value.Len() == 0) {
			t.Errorf("beside the error %d the function %d has the result %v", e, i, results[i])
		}
	}
}

func TestP1_AnyArguments(t *testing.T) {
	broken := twoStands()
	broken.Edges[6].Left, broken.Edges[6].Right = 1, 0
	huge := twoStands()
	huge.Stands, huge.Edges[0].A, huge.Points[1] = highest, lowest, at(lowest, highest)
	maps := []api.Map{{}, twoStands(), broken, huge}
	points := append(wrong(), at(0, 0), at(far, far), at(12, 12))
	lists := [][]api.Stem{nil, stems(12, 12, 14, 14), slices.Repeat(stems(12, 12), api.MaxTrees+1), places(points)}
	numbers := []int{lowest, -1, 0, 1, 1000, 1001, 1000000, 1000001, highest}
	r := rand.New(rand.NewPCG(21, 1))
	for range 20000 {
		pick := func() api.Point { return points[r.IntN(len(points))] }
		c := api.Circle{Center: pick(), Radius: numbers[r.IntN(len(numbers))]}
		plot.Check(c)
		results, errors := answers(maps[r.IntN(len(maps))], c, pick(), pick(), pick(), lists[r.IntN(len(lists))], numbers[r.IntN(len(numbers))])
		checkNothingBesideErrors(t, results, errors)
	}
}

func TestP21_5_ArgumentsAreKept(t *testing.T) {
	mine := func() (api.Map, []api.Stem) {
		m := twoStands()
		m.Points, m.Edges = append(m.Points, at(77, 77)), append(m.Edges, api.Edge{A: 55})
		l := append(stems(12, 12, 14, 14, 16, 12, 99, 99), stems(66, 66)...)
		return m, l
	}
	m, l := mine()
	part := func(m api.Map, l []api.Stem) (api.Map, []api.Stem) {
		m.Points, m.Edges = m.Points[:6], m.Edges[:7]
		return m, l[:4]
	}
	short, few := part(m, l)
	c := circle(13, 12, 5)
	call := func() []any {
		results, errors := answers(short, c, at(20, 0), at(20, 30), at(12, 12), few, 3)
		for i, e := range errors {
			if e != api.OK {
				t.Fatalf("the function %d returns the error %d", i, e)
			}
		}
		return results
	}
	first := call()
	for _, i := range []int{1, 3, 5} { // the lists among the results
		list := first[i].([]int)
		list = append(list[:len(list):cap(list)], 0)
		for j := range list[:cap(list)][:len(list)] {
			list[j] = -7
		}
	}
	again := call()
	fresh, stand := mine()
	if !reflect.DeepEqual(m, fresh) || !reflect.DeepEqual(l, stand) {
		t.Error("an argument was changed")
	}
	if want := []any{span(157, 158), []int{0, 1, 2}, 1, []int{1, 1, 1, 0}, span(37974683, 38216561), []int{2, 1}}; !reflect.DeepEqual(again, want) {
		t.Errorf("after the results were changed they are %v, want %v", again, want)
	}
}

func TestP21_1_Check(t *testing.T) {
	for i, c := range []struct {
		c api.Circle
		e int
	}{
		{circle(50, 50, 10), api.OK},
		{circle(0, 0, 1), api.OK},
		{circle(far, far, 1000), api.OK},
		{circle(0, far, 500), api.OK},
		{circle(50, 50, 0), api.ErrRange},
		{circle(50, 50, -10), api.ErrRange},
		{circle(50, 50, 1001), api.ErrRange},
		{circle(50, 50, lowest), api.ErrRange},
		{circle(50, 50, highest), api.ErrRange},
		{api.Circle{}, api.ErrRange},
	} {
		if e := plot.Check(c.c); e != c.e {
			t.Errorf("%d: Check(%v) is %d, want %d", i, c.c, e, c.e)
		}
	}
	for _, p := range wrong() {
		if e := plot.Check(api.Circle{Center: p, Radius: 10}); e != api.ErrRange {
			t.Errorf("Check with the center %v is %d", p, e)
		}
	}
}

func TestP21_1_Area2(t *testing.T) {
	for i, c := range []struct {
		radius int
		want   api.Span
		e      int
	}{
		{10, span(628, 629), api.OK},
		{100, span(62831, 62832), api.OK},
		{1, span(6, 7), api.OK},
		{1000, span(6283184, 6283192), api.OK},
		{500, span(1570796, 1570798), api.OK},  // both are whole numbers
		{250, span(392699, 392700), api.OK},    // 392699.0 and 392699.5
		{125, span(98174, 98175), api.OK},      // 98174.75 and 98174.875
		{999, span(6270623, 6270632), api.OK},  // 6270623.915... and 6270631.899...
		{577, span(2091854, 2091857), api.OK},  // 2091854.165... and 2091856.829...
		{0, span(0, 0), api.ErrRange},          // no circle
		{-10, span(0, 0), api.ErrRange},        // its square would do
		{1001, span(0, 0), api.ErrRange},       // above the limit
		{lowest, span(0, 0), api.ErrRange},     // above int
		{highest, span(0, 0), api.ErrRange},    // above int
		{1 << 32, span(0, 0), api.ErrRange},    // its square is 0 as an int
		{1<<62 + 1, span(0, 0), api.ErrRange},  // its square is small as an int
		{-1<<62 - 1, span(0, 0), api.ErrRange}, // its square is small as an int
	} {
		if got, e := plot.Area2(c.radius); got != c.want || e != c.e {
			t.Errorf("%d: Area2(%d) is %v, %d, want %v, %d", i, c.radius, got, e, c.want, c.e)
		}
	}
}

// whole returns a number for exact calculations.
func whole(n int) *big.Rat {
	return big.NewRat(int64(n), 1)
}

// floor returns the greatest integer that is not above a number.
func floor(x *big.Rat) int {
	return int(new(big.Int).Div(x.Num(), x.Denom()).Int64())
}

// ceil returns the least integer that is not below a number.
func ceil(x *big.Rat) int {
	return -floor(new(big.Rat).Neg(x))
}

// disc returns twice the area of a circle, with a quarter of pi in parts of a million.
func disc(radius, quarter int) *big.Rat {
	return new(big.Rat).Mul(big.NewRat(int64(quarter), 1000000), whole(8*radius*radius))
}

func TestP21_1_Area2Definition(t *testing.T) {
	pi, _ := new(big.Rat).SetString("3.14159265358979323846")
	for radius := 1; radius <= 1000; radius++ {
		got := must(plot.Area2(radius))
		if want := span(floor(disc(radius, 785398)), ceil(disc(radius, 785399))); got != want {
			t.Fatalf("Area2(%d) is %v, want %v", radius, got, want)
		}
		exact := new(big.Rat).Mul(pi, whole(2*radius*radius))
		if exact.Cmp(whole(got.Lo)) < 0 || exact.Cmp(whole(got.Hi)) > 0 {
			t.Fatalf("Area2(%d) is %v, without %s", radius, got, exact.FloatString(3))
		}
	}
}

func TestP21_2_Tally(t *testing.T) {
	example := circle(50, 50, 10)
	none := []int{}
	for i, c := range []struct {
		c    api.Circle
		l    []api.Stem
		want []int
		e    int
	}{
		{example, stems(60, 50, 56, 58, 57, 58), []int{0, 1}, api.OK},
		{example, stems(57, 58, 56, 58, 57, 58, 60, 50, 61, 50), []int{1, 3}, api.OK},
		{example, stems(50, 60, 50, 61, 40, 50, 39, 50, 50, 40, 50, 39, 44, 42, 43, 42), []int{0, 2, 4, 6}, api.OK},
		{example, stems(50, 50, 50, 50), []int{0, 1}, api.OK}, // at the center, and twice
		{example, nil, none, api.OK},
		{example, stems(80, 80), none, api.OK},
		{circle(0, 0, 1), stems(0, 0, 1, 0, 0, 1, 1, 1, 2, 0), []int{0, 1, 2}, api.OK},
		{circle(far, far, 1000), stems(far-600, far-800, far-601, far-800, far, far-1000, 0, 0), []int{0, 2}, api.OK},
		{circle(0, 0, 1000), stems(far, far, 0, far, far, 0), none, api.OK},
		{circle(50, 50, 0), stems(50, 50), none, api.ErrRange},
		{circle(50, 50, 1001), stems(50, 50), none, api.ErrRange},
		{circle(-1, 50, 10), stems(50, 50), none, api.ErrRange},
		{example, stems(50, 50, far+1, 0), none, api.ErrRange},
		{example, slices.Repeat(stems(50, 50), 201), none, api.ErrLimit},
		{example, append(slices.Repeat(stems(50, 50), 200), stems(-1, 0)...), none, api.ErrLimit},       // before the position
		{example, append(stems(-1, 0), slices.Repeat(stems(50, 50), 200)...), none, api.ErrLimit},       // before the position
		{circle(50, 50, 0), slices.Repeat(stems(-1, 50), 201), none, api.ErrRange},                      // the plot before the number
		{circle(far+1, 50, 10), slices.Repeat(stems(50, 50), 201), none, api.ErrRange},                  // the plot before the number
		{example, append(slices.Repeat(stems(90, 50), 199), stems(50, 50)...), []int{199}, api.OK},      // 200 are permitted
		{example, append(slices.Repeat(stems(90, 50), 199), stems(50, lowest)...), none, api.ErrRange},  // the last one
		{example, append(stems(highest, 50), slices.Repeat(stems(90, 50), 199)...), none, api.ErrRange}, // the first one
	} {
		if got, e := plot.Tally(c.c, c.l); !slices.Equal(got, c.want) || e != c.e {
			t.Errorf("%d: Tally is %v, %d, want %v, %d", i, got, e, c.want, c.e)
		}
	}
	for _, p := range wrong() {
		if got, e := plot.Tally(example, []api.Stem{{At: p}}); len(got) > 0 || e != api.ErrRange {
			t.Errorf("Tally with a stem at %v is %v, %d", p, got, e)
		}
	}
}

// mirror returns the coordinates of the mirror image of a point behind the line through a and b.
func mirror(p, a, b api.Point) (x, y *big.Rat) {
	dx, dy := b.X-a.X, b.Y-a.Y
	// The foot of p on the line is a and this part of the way to b.
	part := big.NewRat(int64(dx*(p.X-a.X)+dy*(p.Y-a.Y)), int64(dx*dx+dy*dy))
	image := func(p, a, d int) *big.Rat {
		foot := new(big.Rat).Add(whole(a), new(big.Rat).Mul(part, whole(d)))
		return foot.Sub(foot.Add(foot, foot), whole(p))
	}
	return image(p.X, a.X, dx), image(p.Y, a.Y, dy)
}

// reach compares the distance of a point from a place with a radius.
func reach(p api.Point, x, y *big.Rat, radius int) int {
	u, v := new(big.Rat).Sub(x, whole(p.X)), new(big.Rat).Sub(y, whole(p.Y))
	u.Mul(u, u)
	v.Mul(v, v)
	return u.Add(u, v).Cmp(whole(radius * radius))
}

// side tells on which side of the line through a and b a point is: 1 on the left, -1 on the right, 0 on it.
func side(a, b, p api.Point) int {
	left := new(big.Int).Mul(big.NewInt(int64(b.X-a.X)), big.NewInt(int64(p.Y-a.Y)))
	return left.Cmp(new(big.Int).Mul(big.NewInt(int64(b.Y-a.Y)), big.NewInt(int64(p.X-a.X))))
}

// weight counts a stem on the plot and on the plot around the mirror image.
func weight(c api.Circle, a, b, p api.Point) int {
	if side(a, b, p) != side(a, b, c.Center) {
		return 0
	}
	count := 0
	if reach(p, whole(c.Center.X), whole(c.Center.Y), c.Radius) <= 0 {
		count++
	}
	if x, y := mirror(c.Center, a, b); reach(p, x, y, c.Radius) <= 0 {
		count++
	}
	return count
}

func TestP21_3_Weight(t *testing.T) {
	example := circle(50, 50, 10)
	slanted := circle(5, 0, 5)
	south, north := at(45, 0), at(45, 100)
	for i, c := range []struct {
		c       api.Circle
		a, b, p api.Point
		want    int
		e       int
	}{
		{example, south, north, at(46, 50), 2, api.OK},
		{example, south, north, at(52, 50), 1, api.OK},
		{example, south, north, at(45, 50), 0, api.OK}, // on the boundary
		{example, south, north, at(44, 50), 0, api.OK}, // behind it
		{example, south, north, at(62, 50), 0, api.OK}, // not on the plot
		{example, south, north, at(50, 50), 2, api.OK}, // the center is at 10 from its image
		{example, south, north, at(51, 50), 1, api.OK},
		{example, south, north, at(48, 56), 2, api.OK}, // at 8 and 6 from the image
		{example, south, north, at(48, 57), 1, api.OK},
		{example, north, south, at(46, 50), 2, api.OK}, // in the other direction
		{example, north, south, at(52, 50), 1, api.OK},
		{example, north, south, at(44, 50), 0, api.OK},
		{example, at(45, 90), at(45, 91), at(46, 50), 2, api.OK},  // the line goes on beyond its points
		{circle(40, 50, 10), south, north, at(44, 50), 2, api.OK}, // on the other side
		{circle(40, 50, 10), south, north, at(46, 50), 0, api.OK}, // behind it from there
		{circle(56, 50, 10), south, north, at(46, 50), 1, api.OK}, // the plot does not reach the boundary
		{circle(55, 50, 10), south, north, at(46, 50), 1, api.OK}, // it touches the boundary
		{slanted, at(0, 0), at(8, 4), at(3, 1), 2, api.OK},        // at 3 from (3, 4), where the image of the center is
		{slanted, at(0, 0), at(8, 4), at(6, 0), 2, api.OK},        // at 5 from it
		{slanted, at(0, 0), at(8, 4), at(7, 1), 2, api.OK},        // at 5 from it
		{slanted, at(8, 4), at(6, 3), at(7, 1), 2, api.OK},
		{slanted, at(0, 0), at(8, 4), at(7, 0), 1, api.OK},
		{slanted, at(0, 0), at(8, 4), at(8, 2), 1, api.OK},
		{slanted, at(0, 0), at(8, 4), at(8, 4), 0, api.OK},
		{slanted, at(0, 0), at(8, 4), at(3, 4), 0, api.OK},
		{example, south, south, at(46, 50), 0, api.ErrArg},           // no line
		{example, at(50, 0), at(50, 9), at(46, 50), 0, api.ErrState}, // through the center
		{example, at(50, 50), at(51, 50), at(46, 50), 0, api.ErrState},
		{example, at(49, 50), at(50, 50), at(46, 50), 0, api.ErrState},
		{example, at(0, 0), at(1, 1), at(46, 50), 0, api.ErrState},
		{circle(50, 50, 0), south, south, at(-1, 0), 0, api.ErrRange},
		{circle(50, 50, 1001), south, north, at(46, 50), 0, api.ErrRange},
		{circle(-1, 50, 10), south, north, at(46, 50), 0, api.ErrRange},
		{example, at(-1, 0), at(-1, 0), at(46, 50), 0, api.ErrRange},     // before a = b
		{example, south, south, at(far+1, 0), 0, api.ErrRange},           // before a = b
		{example, at(50, 50), at(50, 50), at(46, 50), 0, api.ErrArg},     // before the center on the line
		{example, at(50, 0), at(50, 9), at(46, -1), 0, api.ErrRange},     // before the center on the line
		{example, at(50, 0), at(50, far+1), at(46, 50), 0, api.ErrRange}, // before the center on the line
	} {
		if got, e := plot.Weight(c.c, c.a, c.b, c.p); got != c.want || e != c.e {
			t.Errorf("%d: Weight(%v, %v, %v, %v) is %d, %d, want %d, %d", i, c.c, c.a, c.b, c.p, got, e, c.want, c.e)
		}
	}
	for _, p := range wrong() {
		for i, l := range [][3]api.Point{{p, north, at(46, 50)}, {south, p, at(46, 50)}, {south, north, p}} {
			if got, e := plot.Weight(example, l[0], l[1], l[2]); got != 0 || e != api.ErrRange {
				t.Errorf("Weight with %v as point %d is %d, %d", p, i, got, e)
			}
		}
	}
}

// scene is a plot near a boundary, with a point.
type scene struct {
	c       api.Circle
	a, b, p api.Point
}

// scenes calls a function for many scenes without an error: small ones, in which distances are often equal to the radius, and ones on the whole map.
func scenes(seed uint64, f func(s scene)) {
	r := rand.New(rand.NewPCG(21, seed))
	for done := 0; done < 40000; {
		size := []int{4, 8, 40, 2000, far}[r.IntN(5)]
		corner := at(r.IntN(far-size+1), r.IntN(far-size+1))
		pick := func() api.Point { return at(corner.X+r.IntN(size+1), corner.Y+r.IntN(size+1)) }
		s := scene{api.Circle{Center: pick(), Radius: 1 + r.IntN(min(size, 1000))}, pick(), pick(), pick()}
		if r.IntN(3) == 0 { // the image has integer coordinates
			s.b.X = s.a.X
		}
		if s.a != s.b && side(s.a, s.b, s.c.Center) != 0 {
			done++
			f(s)
		}
	}
}

func TestP21_3_WeightDefinition(t *testing.T) {
	counts, edges, huge := map[int]int{}, 0, 0
	scenes(2, func(s scene) {
		got, want := must(plot.Weight(s.c, s.a, s.b, s.p)), weight(s.c, s.a, s.b, s.p)
		if got != want {
			t.Fatalf("Weight(%v) is %d, want %d", s, got, want)
		}
		counts[got]++
		if x, y := mirror(s.c.Center, s.a, s.b); reach(s.p, x, y, s.c.Radius) == 0 && got > 0 {
			edges++
		}
		if abs(s.b.X-s.a.X) > far/2 && abs(s.p.Y-s.c.Center.Y) > far/2 {
			huge++
		}
	})
	if counts[0] < 10000 || counts[1] < 5000 || counts[2] < 2000 || edges < 100 || huge < 300 {
		t.Error("there are too few of a kind:", counts, edges, huge)
	}
}

func abs(x int) int {
	return max(x, -x)
}

func TestP21_3_Mirage(t *testing.T) {
	example := circle(50, 50, 10)
	south, north := at(45, 0), at(45, 100)
	full := slices.Repeat(stems(46, 50), 200)
	var none []int
	for i, c := range []struct {
		c    api.Circle
		a, b api.Point
		l    []api.Stem
		want []int
		e    int
	}{
		{example, south, north, stems(46, 50, 52, 50, 45, 50, 44, 50, 62, 50), []int{2, 1, 0, 0, 0}, api.OK},
		{example, south, north, stems(62, 50, 46, 50, 46, 50), []int{0, 2, 2}, api.OK},
		{example, south, north, nil, none, api.OK},
		{example, south, north, full, slices.Repeat([]int{2}, 200), api.OK},
		{example, south, north, append(full[:200:200], stems(46, 50)...), none, api.ErrLimit},
		{example, south, north, append(full[:200:200], stems(-1, 0)...), none, api.ErrLimit}, // before the position
		{example, south, north, stems(46, 50, far+1, 0), none, api.ErrRange},
		{example, south, north, stems(0, -1, 46, 50), none, api.ErrRange},
		{circle(50, 50, 0), south, south, full, none, api.ErrRange},
		{circle(50, far+1, 10), south, north, full, none, api.ErrRange},
		{example, at(-1, 0), at(-1, 0), nil, none, api.ErrRange},                              // before a = b
		{example, south, south, append(full[:200:200], full...), none, api.ErrArg},            // before the number
		{example, south, south, stems(-1, 0), none, api.ErrArg},                               // before the position
		{example, at(50, 50), at(50, 50), full, none, api.ErrArg},                             // before the center on the line
		{example, at(50, 0), at(50, 1), append(full[:200:200], full...), none, api.ErrState},  // before the number
		{example, at(50, 0), at(50, 1), stems(-1, 0), none, api.ErrState},                     // before the position
		{example, at(50, 0), at(50, -1), append(full[:200:200], full...), none, api.ErrRange}, // before the center on the line
	} {
		if got, e := plot.Mirage(c.c, c.a, c.b, c.l); !slices.Equal(got, c.want) || e != c.e {
			t.Errorf("%d: Mirage is %v, %d, want %v, %d", i, got, e, c.want, c.e)
		}
	}
	for _, p := range wrong() {
		_, first := plot.Mirage(example, p, north, full)
		_, second := plot.Mirage(example, south, p, full)
		_, third := plot.Mirage(example, south, north, []api.Stem{{At: p}})
		if first != api.ErrRange || second != api.ErrRange || third != api.ErrRange {
			t.Errorf("Mirage with the point %v returns %d, %d, %d", p, first, second, third)
		}
	}
}

func TestP21_3_MirageDefinition(t *testing.T) {
	var all []api.Point
	scenes(3, func(s scene) {
		all = append(all, s.p)
		l := places(all[max(0, len(all)-3):])
		var want []int
		for _, stem := range l {
			want = append(want, must(plot.Weight(s.c, s.a, s.b, stem.At)))
		}
		if got := must(plot.Mirage(s.c, s.a, s.b, l)); !slices.Equal(got, want) {
			t.Fatalf("Mirage of %v and %v is %v, want %v", s, l, got, want)
		}
	})
}

func TestP21_4_PerHectare(t *testing.T) {
	for i, c := range []struct {
		count, radius int
		want          api.Span
		e             int
	}{
		{5, 100, span(159154, 159158), api.OK},
		{0, 100, span(0, 0), api.OK},
		{0, 1, span(0, 0), api.OK},
		{1, 1, span(285714285, 333333334), api.OK},   // 2 10^9 / 7 and / 6
		{3, 1, span(857142857, 1000000000), api.OK},  // the upper bound is exact
		{7, 1, span(2000000000, 2333333334), api.OK}, // the lower bound is exact
		{1, 1000, span(318, 319), api.OK},            // 318.3096 and 318.3100
		{1000000, 1, span(285714285714285, 333333333333334), api.OK},
		{1000000, 1000, span(318309547, 318309953), api.OK},
		{-1, 100, span(0, 0), api.ErrRange},
		{1000001, 100, span(0, 0), api.ErrRange},
		{5, 0, span(0, 0), api.ErrRange},
		{5, 1001, span(0, 0), api.ErrRange},
		{lowest, 100, span(0, 0), api.ErrRange},
		{highest, 100, span(0, 0), api.ErrRange},
		{5, lowest, span(0, 0), api.ErrRange},
		{5, highest, span(0, 0), api.ErrRange},
		{-1, -1, span(0, 0), api.ErrRange},
	} {
		if got, e := plot.PerHectare(c.count, c.radius); got != c.want || e != c.e {
			t.Errorf("%d: PerHectare(%d, %d) is %v, %d, want %v, %d", i, c.count, c.radius, got, e, c.want, c.e)
		}
	}
}

func TestP21_4_PerHectareDefinition(t *testing.T) {
	r := rand.New(rand.NewPCG(21, 4))
	hectare := new(big.Rat).SetInt64(2000000000)
	for range 20000 {
		count, radius := r.IntN([]int{10, 1000, 1000001}[r.IntN(3)]), 1+r.IntN([]int{10, 1000}[r.IntN(2)])
		all := new(big.Rat).Mul(whole(count), hectare)
		area := must(plot.Area2(radius))
		want := span(floor(new(big.Rat).Quo(all, whole(area.Hi))), ceil(new(big.Rat).Quo(all, whole(area.Lo))))
		if got := must(plot.PerHectare(count, radius)); got != want {
			t.Fatalf("PerHectare(%d, %d) is %v, want %v", count, radius, got, want)
		}
	}
}

// land is a map of square cells, each of which belongs to a stand or to the outside (-1).
type land struct {
	from api.Point // the lower left corner
	cell int       // the width of a cell
	of   [][]int   // rows of cells from south to north
}

// region returns to what the cell in a column and row belongs.
func (w land) region(column, row int) int {
	if row < 0 || row >= len(w.of) || column < 0 || column >= len(w.of[row]) {
		return -1
	}
	return w.of[row][column]
}

// plan returns the map, with an edge between each two cells that do not belong together.
func (w land) plan() api.Map {
	m := api.Map{}
	numbers := map[api.Point]int{}
	number := func(column, row int) int {
		p := at(w.from.X+column*w.cell, w.from.Y+row*w.cell)
		if _, known := numbers[p]; !known {
			numbers[p] = len(m.Points)
			m.Points = append(m.Points, p)
		}
		return numbers[p]
	}
	link := func(a, b, left, right int) {
		if left != right {
			m.Edges = append(m.Edges, api.Edge{A: a, B: b, Left: left, Right: right})
		}
	}
	for row := range len(w.of) + 1 {
		for column := range len(w.of[0]) + 1 {
			here := w.region(column, row)
			m.Stands = max(m.Stands, here+1)
			if below := w.region(column, row-1); below != here {
				link(number(column, row), number(column+1, row), here, below)
			}
			if before := w.region(column-1, row); before != here {
				link(number(column, row), number(column, row+1), before, here)
			}
		}
	}
	return m
}

// lowest returns the lowest stand at a point, or -1: that of the cells that contain it, with their boundaries.
func (w land) lowest(p api.Point) int {
	best := -1
	for row := range len(w.of) {
		for column := range len(w.of[0]) {
			x, y := p.X-w.from.X-column*w.cell, p.Y-w.from.Y-row*w.cell
			stand := w.of[row][column]
			if 0 <= x && x <= w.cell && 0 <= y && y <= w.cell && stand >= 0 && (best < 0 || stand < best) {
				best = stand
			}
		}
	}
	return best
}

// lands calls a function for many maps of cells, in which each stand has a cell.
func lands(seed uint64, count int, f func(r *rand.Rand, w land, m api.Map)) {
	r := rand.New(rand.NewPCG(21, seed))
	for range count {
		w := land{from: at(r.IntN(2)*500, r.IntN(2)*99000), cell: 1 + r.IntN(40)}
		rows, columns, stands := 1+r.IntN(5), 1+r.IntN(5), 0
		for row := range rows {
			w.of = append(w.of, nil)
			for range columns {
				stand := r.IntN(min(stands+2, 7)) - 1
				if row == 0 && stands == 0 {
					stand = 0
				}
				stands = max(stands, stand+1)
				w.of[row] = append(w.of[row], stand)
			}
		}
		m := w.plan()
		if e := cadastre.Check(m); e != api.OK {
			panic(e)
		}
		f(r, w, m)
	}
}

func TestP21_5_ByStand(t *testing.T) {
	m := twoStands()
	c := circle(14, 12, 5)
	full := slices.Repeat(stems(12, 12), 200)
	// A square of the stand 1 with a square of the outside in it, in which the stand 0 lies.
	rings := land{at(10, 10), 2, [][]int{{1, 1, 1, 1, 1}, {1, -1, -1, -1, 1}, {1, -1, 0, -1, 1}, {1, -1, -1, -1, 1}, {1, 1, 1, 1, 1}}}.plan()
	broken := twoStands()
	broken.Edges[6].Left, broken.Edges[6].Right = 1, 0
	var none []int
	for i, x := range []struct {
		m    api.Map
		c    api.Circle
		l    []api.Stem
		want []int
		e    int
	}{
		{m, c, stems(12, 12, 16, 12, 17, 11, 12, 9), []int{1, 2}, api.OK}, // the last one is outside of the stands
		{m, c, stems(14, 12, 14, 11), []int{2, 0}, api.OK},                // on the common boundary
		{m, c, stems(14, 10, 14, 14), []int{2, 0}, api.OK},                // on the ends of it
		{m, c, stems(12, 10, 16, 14, 18, 10), []int{1, 2}, api.OK},        // on a boundary with the outside
		{m, circle(14, 12, 2), stems(12, 12, 11, 12, 16, 12, 17, 12), []int{1, 1}, api.OK},
		{m, circle(14, 12, 2), stems(11, 12, 17, 12), []int{0, 0}, api.OK}, // not on the plot
		{m, c, nil, []int{0, 0}, api.OK},
		{m, c, full, []int{200, 0}, api.OK},
		{m, circle(99, 99, 5), full, []int{0, 0}, api.OK},
		{rings, circle(15, 15, 9), stems(15, 15, 13, 15, 14, 15, 12, 12, 11, 11, 10, 10, 9, 15), []int{2, 3}, api.OK},
		{m, circle(14, 12, 0), full, none, api.ErrRange},
		{m, circle(14, -12, 5), full, none, api.ErrRange},
		{m, c, append(full[:200:200], stems(12, 12)...), none, api.ErrLimit},
		{m, c, append(full[:200:200], stems(-1, 12)...), none, api.ErrLimit},
		{m, c, stems(12, 12, 12, far+1), none, api.ErrRange},
		{m, circle(14, 12, 0), append(full[:200:200], stems(12, 12)...), none, api.ErrRange},
		{broken, circle(14, 12, 0), append(full[:200:200], stems(-1, 12)...), none, api.ErrConflict}, // the map first
		{broken, c, stems(-1, 12), none, api.ErrConflict},
		{broken, c, nil, none, api.ErrConflict},
		{api.Map{}, c, nil, none, api.ErrRange},
		{api.Map{Stands: 1}, circle(14, 12, 0), nil, none, api.ErrNone},
		{api.Map{Stands: 1, Points: make([]api.Point, 65)}, circle(14, 12, 0), nil, none, api.ErrLimit},
		{api.Map{Stands: 1, Points: make([]api.Point, 2)}, circle(14, 12, 0), nil, none, api.ErrExist},
	} {
		if got, e := plot.ByStand(x.m, x.c, x.l); !slices.Equal(got, x.want) || e != x.e {
			t.Errorf("%d: ByStand is %v, %d, want %v, %d", i, got, e, x.want, x.e)
		}
	}
}

func TestP21_5_ByStandDefinition(t *testing.T) {
	several, outside := 0, 0
	lands(5, 400, func(r *rand.Rand, w land, m api.Map) {
		reach := 6 * w.cell
		pick := func() api.Point {
			if r.IntN(2) == 0 { // on a line between cells
				return at(w.from.X+r.IntN(6)*w.cell, w.from.Y+r.IntN(reach))
			}
			return at(max(0, w.from.X-10)+r.IntN(reach+10), max(0, w.from.Y-10)+r.IntN(reach+10))
		}
		c := api.Circle{Center: pick(), Radius: 1 + r.IntN(reach)}
		var l []api.Stem
		for range r.IntN(20) {
			l = append(l, api.Stem{At: pick()})
		}
		want := make([]int, m.Stands)
		for _, i := range must(plot.Tally(c, l)) {
			if stand := w.lowest(l[i].At); stand >= 0 {
				want[stand]++
			} else {
				outside++
			}
			if places, _ := cadastre.Locate(m, l[i].At); len(places) > 1 {
				several++
			}
		}
		if got := must(plot.ByStand(m, c, l)); !slices.Equal(got, want) {
			t.Fatalf("ByStand of %v, %v, %v is %v, want %v", w, c, l, got, want)
		}
	})
	if several < 200 || outside < 200 {
		t.Error("there are too few of a kind:", several, outside)
	}
}

// lattice returns all points with coordinates from a number up to another one.
func lattice(from, to int) []api.Point {
	var l []api.Point
	for x := from; x <= to; x++ {
		for y := from; y <= to; y++ {
			l = append(l, at(x, y))
		}
	}
	return l
}

func TestP21_6_Centers(t *testing.T) {
	r := rand.New(rand.NewPCG(21, 6))
	for range 300 {
		var centers, positions []api.Point
		for range 1 + r.IntN(30) {
			centers, positions = append(centers, at(r.IntN(40), r.IntN(40))), append(positions, at(r.IntN(40), r.IntN(40)))
		}
		radius := 1 + r.IntN(30)
		counts := make([]int, len(positions))
		for _, center := range centers {
			for _, i := range must(plot.Tally(api.Circle{Center: center, Radius: radius}, places(positions))) {
				counts[i]++
			}
		}
		for i, p := range positions {
			around := must(plot.Tally(api.Circle{Center: p, Radius: radius}, places(centers)))
			if len(around) != counts[i] {
				t.Fatalf("the stem %v is on %d plots, and has %d centers around it", p, counts[i], len(around))
			}
		}
	}
}

// TestP3_MirageIsUnbiased adds up the weights of a stem over all plots on its side of a boundary: as often as the stem would count on all plots of the whole plane, if none were on the line.
func TestP3_MirageIsUnbiased(t *testing.T) {
	grid := lattice(0, 40)
	for _, line := range [][2]api.Point{{at(20, 0), at(20, 7)}, {at(9, 20), at(3, 20)}, {at(0, 0), at(5, 5)}, {at(40, 0), at(30, 10)}} {
		for _, p := range []api.Point{at(20, 20), at(21, 20), at(24, 18), at(17, 22), at(26, 23), at(12, 20)} {
			for _, radius := range []int{1, 2, 5, 10, 11} {
				weights, plots := 0, 0
				for _, center := range grid {
					c := api.Circle{Center: center, Radius: radius}
					if side(line[0], line[1], center) == 0 {
						continue
					}
					if side(line[0], line[1], p) != 0 {
						plots += len(must(plot.Tally(c, places([]api.Point{p}))))
					}
					if side(line[0], line[1], center) == side(line[0], line[1], p) {
						weights += must(plot.Weight(c, line[0], line[1], p))
					}
				}
				if weights != plots {
					t.Errorf("the weights of %v at the line %v with the radius %d add up to %d, want %d", p, line, radius, weights, plots)
				}
			}
		}
	}
}

func TestP21_6_Weights(t *testing.T) {
	once, twice, inner := 0, 0, 0
	scenes(7, func(s scene) {
		got := must(plot.Weight(s.c, s.a, s.b, s.p))
		on := len(must(plot.Tally(s.c, places([]api.Point{s.p})))) == 1
		if beside := side(s.a, s.b, s.p) == side(s.a, s.b, s.c.Center); on && beside != (got > 0) || !on && got > 0 {
			t.Fatalf("the weight of %v is %d, on the plot: %t, on the same side: %t", s, got, on, beside)
		}
		x, y := mirror(s.c.Center, s.a, s.b)
		if reach(s.c.Center, x, y, 2*s.c.Radius) > 0 { // the plot does not reach the boundary
			inner++
			if got > 1 {
				t.Fatalf("the weight of %v is %d", s, got)
			}
		}
		switch got {
		case 1:
			once++
		case 2:
			twice++
		}
	})
	if once < 5000 || twice < 2000 || inner < 5000 {
		t.Error("there are too few of a kind:", once, twice, inner)
	}
}

func TestP21_6_PerHectareGrows(t *testing.T) {
	r := rand.New(rand.NewPCG(21, 8))
	less := func(a, b api.Span) bool { return a.Lo <= b.Lo && a.Hi <= b.Hi }
	for range 20000 {
		count, radius := r.IntN(1000001), 1+r.IntN(1000)
		stems := must(plot.PerHectare(count, radius))
		if more := min(count+1+r.IntN(1000), 1000000); !less(stems, must(plot.PerHectare(more, radius))) {
			t.Fatalf("%d stems on the radius %d are fewer on a hectare than %d", more, radius, count)
		}
		if wide := min(radius+1+r.IntN(10), 1000); !less(must(plot.PerHectare(count, wide)), stems) {
			t.Fatalf("%d stems on the radius %d are fewer on a hectare than on %d", count, radius, wide)
		}
	}
	if a, b := must(plot.PerHectare(5, 100)), must(plot.PerHectare(6, 100)); a.Hi >= b.Lo {
		t.Error("5 stems are", a, "and 6 are", b)
	}
	if a, b := must(plot.PerHectare(5, 100)), must(plot.PerHectare(5, 99)); a.Hi >= b.Lo {
		t.Error("the radius 100 gives", a, "and 99", b)
	}
}

func TestP21_6_StandsAddUp(t *testing.T) {
	whole, part := 0, 0
	lands(9, 400, func(r *rand.Rand, w land, m api.Map) {
		c := api.Circle{Center: at(w.from.X+r.IntN(5*w.cell), w.from.Y+r.IntN(5*w.cell)), Radius: 1 + r.IntN(5*w.cell)}
		var l []api.Stem
		for range 10 {
			l = append(l, api.Stem{At: at(w.from.X+r.IntN(5*w.cell), w.from.Y+r.IntN(5*w.cell))})
		}
		sum, all := 0, len(must(plot.Tally(c, l)))
		for _, count := range must(plot.ByStand(m, c, l)) {
			sum += count
		}
		switch {
		case sum > all:
			t.Fatalf("the counts of stands add up to %d of %d", sum, all)
		case sum == all && all > 0:
			whole++
		case sum < all:
			part++
		}
	})
	if whole < 20 || part < 20 {
		t.Error("there are too few of a kind:", whole, part)
	}
}
