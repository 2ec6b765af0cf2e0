package terrain_test

import (
	"math/big"
	"math/rand/v2"
	"reflect"
	"slices"
	"testing"

	"coupe/api"
	"coupe/fraction"
	"coupe/interval"
	"coupe/terrain"
)

const (
	lowest  = -1 << 63
	highest = 1<<63 - 1
)

func point(x, y int) api.Point {
	return api.Point{X: x, Y: y}
}

func frac(num, den int) api.Frac {
	return api.Frac{Num: num, Den: den}
}

func span(lo, hi int) api.Span {
	return api.Span{Lo: lo, Hi: hi}
}

// grid returns a terrain of rows of heights.
func grid(cell int, rows ...[]int) api.Terrain {
	return api.Terrain{Cols: len(rows[0]), Rows: len(rows), Cell: cell, Z: slices.Concat(rows...)}
}

// flat returns a terrain with one height everywhere.
func flat(cols, rows, cell, z int) api.Terrain {
	return api.Terrain{Cols: cols, Rows: rows, Cell: cell, Z: slices.Repeat([]int{z}, cols*rows)}
}

// example returns the terrain of the chapter.
func example() api.Terrain {
	return grid(10, []int{0, 10}, []int{20, 50})
}

// hills returns a terrain with a pit that is not at its edge, and with equal neighbours.
func hills() api.Terrain {
	return grid(7,
		[]int{9, 8, 9, 30, 31},
		[]int{8, 3, 5, 29, 40},
		[]int{9, 8, 9, 28, 28},
		[]int{7, 7, 7, 7, 50000})
}

// random returns a terrain with heights up to a greatest one.
func random(r *rand.Rand, greatest int) api.Terrain {
	t := flat(2+r.IntN(4), 2+r.IntN(4), 1+r.IntN(12), 0)
	for i := range t.Z {
		t.Z[i] = r.IntN(greatest + 1)
	}
	return t
}

// correct are terrains without an error.
func correct() map[string]api.Terrain {
	l := map[string]api.Terrain{
		"of the chapter": example(),
		"hills":          hills(),
		"low":            flat(2, 2, 1, 0),
		"high":           flat(2, 2, 1, 50000),
		"narrow":         flat(2, 16, 1000, 7),
		"wide":           flat(16, 2, 999, 7),
		"greatest":       flat(16, 16, 1000, 50000),
		"a saddle":       grid(3, []int{0, 50000}, []int{50000, 0}),
		"a ridge":        grid(4, []int{5, 9, 1}, []int{6, 9, 0}),
	}
	r := rand.New(rand.NewPCG(15, 0))
	for i := range 40 {
		l["random "+string(rune('A'+i))] = random(r, []int{3, 20, 50000}[i%3])
	}
	return l
}

// with returns the terrain of the chapter after a change.
func with(change func(t *api.Terrain)) api.Terrain {
	t := example()
	change(&t)
	return t
}

// wrong is a terrain with an error.
type wrong struct {
	name string
	t    api.Terrain
	e    int
}

// faults are changes that make errors, in the order in which they are returned.
var faults = []struct {
	name   string
	change func(t *api.Terrain)
	e      int
}{
	{"one column", func(t *api.Terrain) { t.Cols = 1 }, api.ErrRange},
	{"too many columns", func(t *api.Terrain) { t.Cols = 17 }, api.ErrRange},
	{"one row", func(t *api.Terrain) { t.Rows = 1 }, api.ErrRange},
	{"too many rows", func(t *api.Terrain) { t.Rows = 17 }, api.ErrRange},
	{"no width", func(t *api.Terrain) { t.Cell = 0 }, api.ErrRange},
	{"too great a width", func(t *api.Terrain) { t.Cell = 1001 }, api.ErrRange},
	{"a height too few", func(t *api.Terrain) { t.Z = t.Z[:3] }, api.ErrForm},
	{"a height too many", func(t *api.Terrain) { t.Z = append(t.Z, 7) }, api.ErrForm},
	{"another number of columns", func(t *api.Terrain) { t.Cols = 3 }, api.ErrForm},
	{"another number of rows", func(t *api.Terrain) { t.Rows = 3 }, api.ErrForm},
	{"no heights", func(t *api.Terrain) { t.Z = nil }, api.ErrForm},
	{"a first height below 0", func(t *api.Terrain) { t.Z = slices.Concat([]int{-1}, t.Z[min(1, len(t.Z)):]) }, api.ErrRange},
	{"a last height that is too great", func(t *api.Terrain) { t.Z = append(t.Z[:max(0, len(t.Z)-1)], 50001) }, api.ErrRange},
}

// faulty are terrains with one error, or with two.
func faulty() []wrong {
	l := []wrong{
		{"nothing", api.Terrain{}, api.ErrRange},
		{"one node", grid(1, []int{1}), api.ErrRange},
		{"columns without end", with(func(t *api.Terrain) { t.Cols = highest }), api.ErrRange},
		{"rows without end", with(func(t *api.Terrain) { t.Rows = highest }), api.ErrRange},
		{"columns far below 0", with(func(t *api.Terrain) { t.Cols = lowest }), api.ErrRange},
		{"rows far below 0", with(func(t *api.Terrain) { t.Rows = lowest }), api.ErrRange},
		{"columns and rows below 0", with(func(t *api.Terrain) { t.Cols, t.Rows = -2, -2 }), api.ErrRange},
		{"a width far below 0", with(func(t *api.Terrain) { t.Cell = lowest }), api.ErrRange},
		{"a width without end", with(func(t *api.Terrain) { t.Cell = highest }), api.ErrRange},
		{"a height far below 0", with(func(t *api.Terrain) { t.Z[2] = lowest }), api.ErrRange},
		{"a height without end", with(func(t *api.Terrain) { t.Z[2] = highest }), api.ErrRange},
		{"a height too few in a great terrain", with(func(t *api.Terrain) { *t = flat(16, 16, 1, 0); t.Z = t.Z[1:] }), api.ErrForm},
		{"one column, with a height", grid(1, []int{1}, []int{2}), api.ErrRange},
		{"one row, with all heights", grid(1, []int{1, 2}), api.ErrRange},
		{"17 columns, with all heights", flat(17, 2, 1, 0), api.ErrRange},
		{"17 rows, with all heights", flat(2, 17, 1, 0), api.ErrRange},
	}
	for i, x := range faults {
		l = append(l, wrong{x.name, with(x.change), x.e})
		for _, y := range faults[i+1:] {
			t := with(x.change)
			y.change(&t)
			if e := expected(t); e != api.OK {
				l = append(l, wrong{x.name + ", " + y.name, t, e})
			}
		}
	}
	return l
}

// expected tells the error of a terrain from the classes of its errors.
func expected(t api.Terrain) int {
	in := func(x, from, to int) bool { return slices.Contains([]bool{x < from, x > to}, true) }
	if in(t.Cols, 2, 16) || in(t.Rows, 2, 16) || in(t.Cell, 1, 1000) {
		return api.ErrRange
	}
	if t.Cols*t.Rows != len(t.Z) {
		return api.ErrForm
	}
	if slices.Min(t.Z) < 0 || slices.Max(t.Z) > 50000 {
		return api.ErrRange
	}
	return api.OK
}

// answers returns the results of all functions, and their errors.
func answers(t api.Terrain, p, q api.Point, n, m int, limits []int) (results []any, errors []int) {
	height, e1 := terrain.Height(t, p)
	steep, e2 := terrain.Slope(t, n, m)
	classes, e3 := terrain.Classes(t, limits)
	receivers, e4 := terrain.Receiver(t)
	counts, e5 := terrain.Catchment(t)
	heights, e6 := terrain.Profile(t, p, q, n)
	cut, fill, e7 := terrain.Volume(t, n)
	return []any{height, steep, classes, receivers, counts, heights, [2]api.Span{cut, fill}}, []int{e1, e2, e3, e4, e5, e6, e7}
}

// checkNothingBesideErrors finds that functions that return an error return nothing else.
func checkNothingBesideErrors(t *testing.T, results []any, errors []int) {
	t.Helper()
	for i, e := range errors {
		v := reflect.ValueOf(results[i])
		if e != api.OK && !v.IsZero() && (v.Kind() != reflect.Slice || v.Len() > 0) {
			t.Error("function", i, "returns", results[i], "beside the error", e)
		}
	}
}

// TestP1_AnyArguments calls all functions with arguments of any form: none panics, and beside an error there is nothing else.
func TestP1_AnyArguments(t *testing.T) {
	numbers := []int{lowest, lowest + 1, -1000, -2, -1, 0, 1, 2, 3, 4, 10, 16, 17, 64, 65, 1000, 1001, 50000, 50001, highest - 1, highest}
	r := rand.New(rand.NewPCG(15, 1))
	pick := func() int { return numbers[r.IntN(len(numbers))] }
	list := func() []int {
		l := make([]int, r.IntN(10))
		for i := range l {
			l[i] = pick()
		}
		return l
	}
	for range 50000 {
		x := api.Terrain{Cols: pick(), Rows: pick(), Cell: pick(), Z: list()}
		results, errors := answers(x, point(pick(), pick()), point(pick(), pick()), pick(), pick(), list())
		checkNothingBesideErrors(t, results, errors)
	}
	for _, x := range correct() {
		for range 500 {
			results, errors := answers(x, point(pick(), pick()), point(pick(), pick()), pick(), pick(), list())
			checkNothingBesideErrors(t, results, errors)
		}
	}
}

func TestP1_ArgumentsAreKept(t *testing.T) {
	x := hills()
	x.Z = append(make([]int, 0, 24), x.Z...)
	all := x.Z[:24]
	all[20], all[23] = 77, 99
	limits := append(make([]int, 0, 5), 3, 500, 1000)
	kept, keptLimits := slices.Clone(all), append(slices.Clone(limits), 0, 0)
	first, errors := answers(x, point(3, 3), point(10, 17), 1, 2, limits)
	if slices.ContainsFunc(errors, func(e int) bool { return e != api.OK }) {
		t.Error(errors)
	}
	if !slices.Equal(all, kept) || !slices.Equal(limits[:5], keptLimits) {
		t.Error("arguments were changed", all, limits[:5])
	}
	second, _ := answers(x, point(3, 3), point(10, 17), 1, 2, limits)
	for _, result := range first {
		if l, ok := result.([]int); ok {
			for i := range l[:cap(l)] {
				l[:cap(l)][i] = -5
			}
		}
	}
	if !slices.Equal(all, kept) || !slices.Equal(limits[:5], keptLimits) {
		t.Error("results share memory with arguments")
	}
	if third, _ := answers(x, point(3, 3), point(10, 17), 1, 2, limits); !reflect.DeepEqual(second, third) {
		t.Error("results share memory with each other", second, third)
	}
}

func TestP15_1_Check(t *testing.T) {
	for name, x := range correct() {
		if e := terrain.Check(x); e != api.OK {
			t.Error(name, e)
		}
	}
	for _, x := range faulty() {
		if e := terrain.Check(x.t); e != x.e {
			t.Error(x.name, e)
		}
	}
}

// TestP15_1_First finds that all functions return the error of Check first, whatever the other arguments are.
func TestP15_1_First(t *testing.T) {
	for _, x := range faulty() {
		for _, n := range []int{0, 1, -1, 70, 50001, lowest, highest} {
			for _, limits := range [][]int{nil, {1, 2}, {2, 1}} {
				results, errors := answers(x.t, point(n, 0), point(0, n), n, n, limits)
				checkNothingBesideErrors(t, results, errors)
				if slices.ContainsFunc(errors, func(e int) bool { return e != x.e }) {
					t.Error(x.name, n, errors)
				}
			}
		}
	}
}

func TestP15_2_Height(t *testing.T) {
	slanted := grid(6, []int{10, 4, 40}, []int{1, 8, 30}, []int{5, 50000, 0})
	for i, x := range []struct {
		t      api.Terrain
		at     api.Point
		height api.Frac
		e      int
	}{
		{example(), point(5, 5), frac(20, 1), api.OK},
		{example(), point(10, 5), frac(30, 1), api.OK},
		{example(), point(5, 0), frac(5, 1), api.OK},
		{example(), point(0, 5), frac(10, 1), api.OK},
		{example(), point(5, 10), frac(35, 1), api.OK},
		{example(), point(0, 0), frac(0, 1), api.OK},
		{example(), point(10, 0), frac(10, 1), api.OK},
		{example(), point(0, 10), frac(20, 1), api.OK},
		{example(), point(10, 10), frac(50, 1), api.OK},
		{example(), point(1, 0), frac(1, 1), api.OK},
		{example(), point(0, 1), frac(2, 1), api.OK},
		{example(), point(3, 7), frac(106, 5), api.OK}, // (10 9 + 20 49 + 50 21) / 100
		{example(), point(7, 3), frac(86, 5), api.OK},  // (10 49 + 20 9 + 50 21) / 100
		{example(), point(1, 1), frac(16, 5), api.OK},
		{example(), point(9, 9), frac(216, 5), api.OK},
		{example(), point(-1, 0), api.Frac{}, api.ErrRange},
		{example(), point(0, -1), api.Frac{}, api.ErrRange},
		{example(), point(11, 0), api.Frac{}, api.ErrRange},
		{example(), point(0, 11), api.Frac{}, api.ErrRange},
		{example(), point(lowest, lowest), api.Frac{}, api.ErrRange},
		{example(), point(5, highest), api.Frac{}, api.ErrRange},
		{example(), point(highest, 5), api.Frac{}, api.ErrRange},
		{slanted, point(6, 0), frac(4, 1), api.OK},
		{slanted, point(12, 0), frac(40, 1), api.OK},
		{slanted, point(12, 12), frac(0, 1), api.OK},
		{slanted, point(6, 12), frac(50000, 1), api.OK},
		{slanted, point(12, 9), frac(15, 1), api.OK},
		{slanted, point(9, 6), frac(19, 1), api.OK},
		{slanted, point(9, 3), frac(41, 2), api.OK},   // (4 + 40 + 8 + 30) / 4
		{slanted, point(5, 1), frac(191, 36), api.OK}, // (10 5 + 4 25 + 1 + 8 5) / 36
		{slanted, point(13, 0), api.Frac{}, api.ErrRange},
		{slanted, point(0, 13), api.Frac{}, api.ErrRange},
		{flat(2, 3, 4, 7), point(4, 8), frac(7, 1), api.OK},
		{flat(2, 3, 4, 7), point(8, 4), api.Frac{}, api.ErrRange},
		{flat(3, 2, 4, 7), point(8, 4), frac(7, 1), api.OK},
		{flat(3, 2, 4, 7), point(4, 8), api.Frac{}, api.ErrRange},
	} {
		if h, e := terrain.Height(x.t, x.at); h != x.height || e != x.e {
			t.Error(i, h, e)
		}
	}
}

// node returns the height of a node by its column and row.
func node(t api.Terrain, col, row int) *big.Int {
	return big.NewInt(int64(t.Z[row*t.Cols+col]))
}

// inCell computes the height at a point of a cell with fractions of any size.
func inCell(t api.Terrain, col, row int, p api.Point) *big.Rat {
	sum := new(big.Rat)
	for _, corner := range [][2]int{{0, 0}, {0, 1}, {1, 0}, {1, 1}} {
		weight := big.NewRat(1, 1)
		for axis, distance := range []int{p.X - col*t.Cell, p.Y - row*t.Cell} {
			share := big.NewRat(int64(distance), int64(t.Cell))
			if corner[axis] == 0 {
				share.Sub(big.NewRat(1, 1), share)
			}
			weight.Mul(weight, share)
		}
		z := new(big.Rat).SetInt(node(t, col+corner[0], row+corner[1]))
		sum.Add(sum, weight.Mul(weight, z))
	}
	return sum
}

// isEqual reports whether a fraction in lowest terms has a value.
func isEqual(f api.Frac, want *big.Rat) bool {
	return want.Num().IsInt64() && want.Num().Int64() == int64(f.Num) && want.Denom().Int64() == int64(f.Den)
}

// somewhere returns a point on the grid, often on a side of a cell.
func somewhere(r *rand.Rand, t api.Terrain) api.Point {
	p := point(r.IntN((t.Cols-1)*t.Cell+1), r.IntN((t.Rows-1)*t.Cell+1))
	if r.IntN(3) == 0 {
		p.X = p.X / t.Cell * t.Cell
	}
	if r.IntN(3) == 0 {
		p.Y = p.Y / t.Cell * t.Cell
	}
	return p
}

// TestP15_2_HeightDefinition compares with the heights in all cells that a point belongs to.
func TestP15_2_HeightDefinition(t *testing.T) {
	r := rand.New(rand.NewPCG(15, 2))
	for name, x := range correct() {
		for range 200 {
			p := somewhere(r, x)
			h, e := terrain.Height(x, p)
			found := 0
			for row := range x.Rows - 1 {
				for col := range x.Cols - 1 {
					if p.X < col*x.Cell || p.X > (col+1)*x.Cell || p.Y < row*x.Cell || p.Y > (row+1)*x.Cell {
						continue
					}
					found++
					if want := inCell(x, col, row, p); !isEqual(h, want) {
						t.Error(name, p, col, row, h, want)
					}
				}
			}
			if e != api.OK || found == 0 {
				t.Error(name, p, e, found)
			}
		}
	}
}

func TestP15_2_Profile(t *testing.T) {
	long := flat(16, 16, 1000, 3)
	for i, x := range []struct {
		t        api.Terrain
		from, to api.Point
		steps    int
		heights  []api.Frac
		e        int
	}{
		{example(), point(0, 0), point(10, 10), 2, []api.Frac{frac(0, 1), frac(20, 1), frac(50, 1)}, api.OK},
		{example(), point(10, 10), point(0, 0), 2, []api.Frac{frac(50, 1), frac(20, 1), frac(0, 1)}, api.OK},
		{example(), point(0, 10), point(10, 0), 2, []api.Frac{frac(20, 1), frac(20, 1), frac(10, 1)}, api.OK},
		{example(), point(0, 0), point(10, 0), 1, []api.Frac{frac(0, 1), frac(10, 1)}, api.OK},
		{example(), point(0, 0), point(0, 10), 2, []api.Frac{frac(0, 1), frac(10, 1), frac(20, 1)}, api.OK},
		{example(), point(7, 7), point(7, 7), 3, slices.Repeat([]api.Frac{frac(154, 5)}, 4), api.OK},
		{example(), point(0, 0), point(9, 6), 3, []api.Frac{frac(0, 1), frac(41, 5), frac(94, 5), frac(159, 5)}, api.OK},
		{example(), point(2, 10), point(8, 10), 3, []api.Frac{frac(26, 1), frac(32, 1), frac(38, 1), frac(44, 1)}, api.OK},
		{example(), point(0, 0), point(10, 10), 3, nil, api.ErrArg},
		{example(), point(0, 0), point(9, 10), 3, nil, api.ErrArg},
		{example(), point(0, 0), point(10, 9), 3, nil, api.ErrArg},
		{example(), point(10, 9), point(0, 0), 3, nil, api.ErrArg},
		{example(), point(0, 0), point(10, 0), 11, nil, api.ErrArg},
		{example(), point(0, 0), point(0, 10), 11, nil, api.ErrArg},
		{example(), point(0, 0), point(10, 10), 0, nil, api.ErrRange},
		{example(), point(0, 0), point(10, 10), -1, nil, api.ErrRange},
		{example(), point(0, 0), point(10, 10), -2, nil, api.ErrRange},
		{example(), point(0, 0), point(0, 0), 65, nil, api.ErrRange},
		{example(), point(0, 0), point(0, 0), lowest, nil, api.ErrRange},
		{example(), point(0, 0), point(0, 0), highest, nil, api.ErrRange},
		{example(), point(0, 0), point(0, 0), 64, slices.Repeat([]api.Frac{frac(0, 1)}, 65), api.OK},
		{example(), point(-1, 0), point(10, 10), 1, nil, api.ErrRange},
		{example(), point(0, 11), point(10, 10), 1, nil, api.ErrRange},
		{example(), point(0, 0), point(11, 10), 1, nil, api.ErrRange},
		{example(), point(0, 0), point(10, -1), 1, nil, api.ErrRange},
		{example(), point(0, 0), point(highest, lowest), 1, nil, api.ErrRange},
		{example(), point(lowest, highest), point(0, 0), 1, nil, api.ErrRange},
		{example(), point(0, 0), point(11, 0), 7, nil, api.ErrRange}, // before ErrArg
		{example(), point(1, 0), point(10, 0), 65, nil, api.ErrRange},
		{long, point(0, 0), point(15000, 15000), 64, nil, api.ErrArg},
		{long, point(0, 15000), point(14976, 24), 64, slices.Repeat([]api.Frac{frac(3, 1)}, 65), api.OK},
	} {
		if l, e := terrain.Profile(x.t, x.from, x.to, x.steps); !slices.Equal(l, x.heights) || e != x.e {
			t.Error(i, l, e)
		}
	}
}

// TestP15_2_ProfileDefinition compares with the heights at the points that divide lines, as fractions of their length.
func TestP15_2_ProfileDefinition(t *testing.T) {
	r := rand.New(rand.NewPCG(15, 3))
	divided := 0
	for name, x := range correct() {
		for range 300 {
			from, to, steps := somewhere(r, x), somewhere(r, x), 1+r.IntN(6)
			var want []api.Frac
			whole := true
			for i := range steps + 1 {
				a, b := from.X*(steps-i)+to.X*i, from.Y*(steps-i)+to.Y*i
				whole = whole && a%steps == 0 && b%steps == 0
				h, _ := terrain.Height(x, point(a/steps, b/steps))
				want = append(want, h)
			}
			l, e := terrain.Profile(x, from, to, steps)
			if whole && (e != api.OK || !slices.Equal(l, want)) || !whole && e != api.ErrArg {
				t.Error(name, from, to, steps, l, e, want)
			}
			if whole && steps > 1 && from != to {
				divided++
			}
		}
	}
	if divided < 1000 {
		t.Error("only", divided, "lines were divided")
	}
}

func TestP15_3_Slope(t *testing.T) {
	for i, x := range []struct {
		t        api.Terrain
		col, row int
		slope    int
		e        int
	}{
		{example(), 0, 0, 4000, api.OK},
		{grid(10, []int{0, 50}, []int{20, 10}), 0, 0, 5000, api.OK}, // the lower side
		{grid(10, []int{9, 0}, []int{20, 30}), 0, 0, 3000, api.OK},  // the right side
		{grid(10, []int{20, 10}, []int{10, 50}), 0, 0, 4000, api.OK},
		{grid(10, []int{10, 10}, []int{50, 20}), 0, 0, 4000, api.OK}, // the left side
		{grid(10, []int{50, 40}, []int{20, 30}), 0, 0, 3000, api.OK}, // the left side, downwards
		{grid(10, []int{10, 20}, []int{20, 30}), 0, 0, 1000, api.OK}, // not the diagonal
		{flat(2, 2, 7, 9), 0, 0, 0, api.OK},
		{grid(7, []int{0, 0}, []int{0, 1}), 0, 0, 143, api.OK},
		{grid(1000, []int{0, 1}, []int{0, 0}), 0, 0, 1, api.OK},
		{grid(999, []int{0, 1}, []int{0, 0}), 0, 0, 2, api.OK},
		{grid(1, []int{50000, 0}, []int{0, 0}), 0, 0, 50000000, api.OK},
		{hills(), 0, 0, 715, api.OK},      // 5/7, and 6/7 along the diagonal
		{hills(), 1, 0, 715, api.OK},      // 5/7
		{hills(), 2, 0, 3429, api.OK},     // 24/7
		{hills(), 3, 0, 1572, api.OK},     // 11/7
		{hills(), 3, 1, 1715, api.OK},     // 12/7
		{hills(), 3, 2, 7141858, api.OK},  // 49993/7
		{hills(), 0, 2, 286, api.OK},      // 2/7
		{hills(), 4, 0, 0, api.ErrRange},  // behind the last column
		{hills(), 0, 3, 0, api.ErrRange},  // behind the last row
		{hills(), -1, 0, 0, api.ErrRange}, // before the first column
		{hills(), 0, -1, 0, api.ErrRange},
		{hills(), 5, 4, 0, api.ErrRange},
		{hills(), highest, 0, 0, api.ErrRange},
		{hills(), 0, lowest, 0, api.ErrRange},
		{example(), 1, 0, 0, api.ErrRange},
		{example(), 0, 1, 0, api.ErrRange},
		{flat(16, 16, 1, 0), 14, 14, 0, api.OK},
		{flat(16, 16, 1, 0), 15, 14, 0, api.ErrRange},
		{flat(16, 16, 1, 0), 14, 15, 0, api.ErrRange},
		{flat(16, 2, 1, 0), 14, 0, 0, api.OK},
		{flat(2, 16, 1, 0), 0, 14, 0, api.OK},
	} {
		if s, e := terrain.Slope(x.t, x.col, x.row); s != x.slope || e != x.e {
			t.Error(i, s, e)
		}
	}
}

// steepest computes the slope of a cell from all pairs of nodes that are neighbours and corners of it.
func steepest(t api.Terrain, col, row int) int {
	rise := 0
	for i, z := range t.Z {
		if !isCorner(t, i, col, row) {
			continue
		}
		for _, j := range around(t, i) {
			if isCorner(t, j, col, row) && z-t.Z[j] > rise {
				rise = z - t.Z[j]
			}
		}
	}
	if whole := 1000 * rise / t.Cell; whole*t.Cell == 1000*rise {
		return whole
	}
	return 1000*rise/t.Cell + 1
}

// allSlopes returns the slopes of the cells in the order of their numbers.
func allSlopes(t api.Terrain) []int {
	slopes := make([]int, (t.Cols-1)*(t.Rows-1))
	for i := range slopes {
		slopes[i] = steepest(t, i%(t.Cols-1), i/(t.Cols-1))
	}
	return slopes
}

// isCorner reports whether a node is a corner of a cell.
func isCorner(t api.Terrain, node, col, row int) bool {
	right, up := node%t.Cols-col, node/t.Cols-row
	return (right == 0 || right == 1) && (up == 0 || up == 1)
}

// around returns the nodes at the distance of one cell from a node.
func around(t api.Terrain, node int) []int {
	var l []int
	for other := range t.Z {
		right, up := other%t.Cols-node%t.Cols, other/t.Cols-node/t.Cols
		if right*right+up*up == 1 {
			l = append(l, other)
		}
	}
	return l
}

func TestP15_3_SlopeDefinition(t *testing.T) {
	for name, x := range correct() {
		for row := range x.Rows - 1 {
			for col := range x.Cols - 1 {
				s, e := terrain.Slope(x, col, row)
				if want := steepest(x, col, row); s != want || e != api.OK {
					t.Error(name, col, row, s, e, want)
				}
			}
		}
	}
}

func TestP15_3_Classes(t *testing.T) {
	terraces := grid(10, []int{0, 0, 1}, []int{0, 0, 1}, []int{0, 2, 5})
	for i, x := range []struct {
		t       api.Terrain
		limits  []int
		classes []int
		e       int
	}{
		{example(), nil, []int{0}, api.OK},
		{example(), []int{3999}, []int{1}, api.OK},
		{example(), []int{4000}, []int{0}, api.OK},
		{example(), []int{4001}, []int{0}, api.OK},
		{example(), []int{lowest, -1, 0, 1000, 3999, 4000, highest}, []int{5}, api.OK},
		{example(), []int{lowest, highest}, []int{1}, api.OK},
		{terraces, nil, []int{0, 0, 0, 0}, api.OK},
		{terraces, []int{0}, []int{0, 1, 1, 1}, api.OK},
		{terraces, []int{99, 199, 399}, []int{0, 1, 2, 3}, api.OK},
		{terraces, []int{100, 200, 400}, []int{0, 0, 1, 2}, api.OK},
		{terraces, []int{-1, 0, 1}, []int{1, 3, 3, 3}, api.OK},
		{hills(), []int{300, 1000, 2000, 3500}, []int{1, 1, 3, 2, 1, 1, 3, 2, 0, 0, 3, 4}, api.OK},
		{example(), []int{1, 1}, nil, api.ErrOrder},
		{example(), []int{2, 1}, nil, api.ErrOrder},
		{example(), []int{5000, 5000}, nil, api.ErrOrder},
		{example(), []int{1, 2, 3, 3}, nil, api.ErrOrder},
		{example(), []int{0, 0, 1, 2}, nil, api.ErrOrder},
		{example(), []int{highest, lowest}, nil, api.ErrOrder},
	} {
		if l, e := terrain.Classes(x.t, x.limits); !slices.Equal(l, x.classes) || e != x.e {
			t.Error(i, l, e)
		}
	}
}

func TestP15_3_ClassesDefinition(t *testing.T) {
	r := rand.New(rand.NewPCG(15, 4))
	for name, x := range correct() {
		slopes := allSlopes(x)
		for range 30 {
			limits := make([]int, r.IntN(20))
			for i := range limits {
				limits[i] = slopes[r.IntN(len(slopes))] + r.IntN(3) - 1
			}
			slices.Sort(limits)
			if r.IntN(4) > 0 {
				limits = slices.Compact(limits)
			}
			twice := len(slices.Compact(slices.Clone(limits))) < len(limits)
			var want []int
			for _, slope := range slopes {
				less := slices.DeleteFunc(slices.Clone(limits), func(limit int) bool { return limit >= slope })
				want = append(want, len(less))
			}
			l, e := terrain.Classes(x, limits)
			if !twice && (e != api.OK || !slices.Equal(l, want)) || twice && e != api.ErrOrder {
				t.Error(name, limits, l, e, want)
			}
		}
	}
}

func TestP15_4_Receiver(t *testing.T) {
	for i, x := range []struct {
		t                 api.Terrain
		receivers, counts []int
	}{
		{example(), []int{-1, 0, 0, 1}, []int{4, 2, 1, 1}},
		{flat(3, 2, 1, 5), []int{-1, -1, -1, -1, -1, -1}, []int{1, 1, 1, 1, 1, 1}},
		{grid(1, []int{3, 1, 3}, []int{1, 9, 1}, []int{3, 1, 3}), []int{1, -1, 1, -1, 1, -1, 3, -1, 5}, []int{1, 4, 1, 2, 1, 2, 1, 1, 1}},
		{grid(1, []int{5, 5, 4}, []int{5, 0, 3}), []int{-1, 4, 5, 4, -1, 4}, []int{1, 1, 1, 1, 5, 2}},
		{grid(1, []int{9, 8}, []int{2, 3}, []int{1, 4}), []int{2, 3, 4, 2, -1, 4}, []int{1, 1, 4, 2, 6, 1}},
		{grid(1, []int{0, 1, 2, 3}, []int{7, 6, 5, 4}), []int{-1, 0, 1, 2, 0, 1, 2, 3}, []int{8, 6, 4, 2, 1, 1, 1, 1}},
		{hills(), []int{1, 6, 7, 2, 3, 6, -1, 6, 7, 14, 15, 6, 7, 18, -1, -1, -1, -1, -1, 18}, []int{1, 2, 3, 2, 1, 1, 11, 6, 1, 1, 1, 1, 1, 1, 2, 2, 1, 1, 3, 1}},
	} {
		if l, e := terrain.Receiver(x.t); !slices.Equal(l, x.receivers) || e != api.OK {
			t.Error(i, l, e)
		}
		if l, e := terrain.Catchment(x.t); !slices.Equal(l, x.counts) || e != api.OK {
			t.Error(i, l, e)
		}
	}
}

// TestP15_4_ReceiverDefinition finds that each receiver is as the promise says, among all nodes.
func TestP15_4_ReceiverDefinition(t *testing.T) {
	for name, x := range correct() {
		receivers, e := terrain.Receiver(x)
		if len(receivers) != len(x.Z) || e != api.OK {
			t.Fatal(name, receivers, e)
		}
		for i, z := range x.Z {
			want := -1
			for _, j := range around(x, i) {
				if x.Z[j] < z && !slices.ContainsFunc(around(x, i), func(k int) bool { return x.Z[k] < x.Z[j] || x.Z[k] == x.Z[j] && k < j }) {
					want = j
				}
			}
			if receivers[i] != want {
				t.Error(name, i, receivers, want)
			}
		}
	}
}

// TestP15_4_CatchmentDefinition finds that each node is counted where its water comes along.
func TestP15_4_CatchmentDefinition(t *testing.T) {
	for name, x := range correct() {
		receivers, _ := terrain.Receiver(x)
		want := make([]int, len(x.Z))
		for to := range x.Z {
			for from := range x.Z {
				at := from
				for at != to && at != -1 {
					at = receivers[at]
				}
				if at == to {
					want[to]++
				}
			}
		}
		if l, e := terrain.Catchment(x); !slices.Equal(l, want) || e != api.OK {
			t.Error(name, l, e, want)
		}
	}
}

func TestP15_5_Volume(t *testing.T) {
	for i, x := range []struct {
		t         api.Terrain
		level     int
		cut, fill api.Span
		e         int
	}{
		{example(), 20, span(0, 750), span(0, 750), api.OK},
		{example(), 0, span(2000, 2000), span(0, 0), api.OK},
		{example(), 10, span(1000, 1250), span(0, 250), api.OK},
		{example(), 50, span(0, 0), span(3000, 3000), api.OK},
		{example(), 30, span(0, 500), span(1000, 1500), api.OK},
		{example(), 50000, span(0, 0), span(4998000, 4998000), api.OK},
		{grid(1, []int{0, 0}, []int{0, 1}), 0, span(0, 1), span(0, 0), api.OK},              // 1/4
		{grid(1, []int{0, 0}, []int{0, 1}), 1, span(0, 0), span(0, 1), api.OK},              // 3/4
		{grid(3, []int{0, 3}, []int{2, 0}), 1, span(2, 7), span(0, 5), api.OK},              // 9/4 to 27/4, 0 to 18/4
		{grid(3, []int{3, 0}, []int{1, 3}), 2, span(0, 5), span(2, 7), api.OK},              // 0 to 18/4, 9/4 to 27/4
		{grid(5, []int{0, 0, 1}, []int{0, 1, 0}), 0, span(18, 19), span(0, 0), api.OK},      // 75/4: one corner of both cells
		{grid(5, []int{1, 1, 0}, []int{1, 0, 1}), 1, span(0, 0), span(18, 19), api.OK},      // 75/4
		{grid(7, []int{2, 2}, []int{2, 4}), 2, span(24, 25), span(0, 0), api.OK},            // 98/4
		{grid(7, []int{3, 3}, []int{3, 2}), 2, span(36, 37), span(0, 0), api.OK},            // 147/4
		{grid(7, []int{5, 5}, []int{5, 4}), 9, span(0, 0), span(208, 209), api.OK},          // 833/4
		{grid(3, []int{0, 1}, []int{0, 0}, []int{1, 0}), 0, span(4, 5), span(0, 0), api.OK}, // 18/4
		{flat(2, 2, 1, 50000), 50000, span(0, 0), span(0, 0), api.OK},
		{example(), -1, api.Span{}, api.Span{}, api.ErrRange},
		{example(), 50001, api.Span{}, api.Span{}, api.ErrRange},
		{example(), lowest, api.Span{}, api.Span{}, api.ErrRange},
		{example(), highest, api.Span{}, api.Span{}, api.ErrRange},
	} {
		if cut, fill, e := terrain.Volume(x.t, x.level); cut != x.cut || fill != x.fill || e != x.e {
			t.Error(i, cut, fill, e)
		}
	}
}

// quarters returns the floor and the ceiling of a quarter of a volume.
func quarters(sum, cell int) (floor, ceiling int) {
	exact := new(big.Rat).Mul(big.NewRat(int64(sum), 4), big.NewRat(int64(cell*cell), 1))
	down, rest := new(big.Int).DivMod(exact.Num(), exact.Denom(), new(big.Int))
	if rest.Sign() > 0 {
		return int(down.Int64()), int(down.Int64()) + 1
	}
	return int(down.Int64()), int(down.Int64())
}

// TestP15_5_VolumeDefinition counts each node once for each cell that it is a corner of.
func TestP15_5_VolumeDefinition(t *testing.T) {
	r := rand.New(rand.NewPCG(15, 5))
	for name, x := range correct() {
		for range 50 {
			level := x.Z[r.IntN(len(x.Z))]
			if r.IntN(4) == 0 {
				level = r.IntN(50001)
			}
			above, below := 0, 0
			for i, z := range x.Z {
				for row := range x.Rows - 1 {
					for col := range x.Cols - 1 {
						if isCorner(x, i, col, row) && z > level {
							above += z - level
						} else if isCorner(x, i, col, row) {
							below += level - z
						}
					}
				}
			}
			var cut, fill api.Span
			_, cut.Hi = quarters(above, x.Cell)
			_, fill.Hi = quarters(below, x.Cell)
			if above > below {
				cut.Lo, _ = quarters(above-below, x.Cell)
			} else {
				fill.Lo, _ = quarters(below-above, x.Cell)
			}
			if c, f, e := terrain.Volume(x, level); c != cut || f != fill || e != api.OK {
				t.Error(name, level, c, f, e, cut, fill)
			}
		}
	}
}

// TestP15_6_Greatest goes to the greatest numbers that there may be.
func TestP15_6_Greatest(t *testing.T) {
	high := flat(16, 16, 1000, 50000)
	all := span(11250000000000, 11250000000000) // 225 10^6 50000
	if cut, fill, e := terrain.Volume(high, 0); cut != all || fill != span(0, 0) || e != api.OK {
		t.Error(cut, fill, e)
	}
	if cut, fill, e := terrain.Volume(flat(16, 16, 1000, 0), 50000); cut != span(0, 0) || fill != all || e != api.OK {
		t.Error(cut, fill, e)
	}
	for _, p := range []api.Point{point(0, 0), point(15000, 15000), point(14999, 1), point(7500, 7500), point(0, 15000)} {
		if h, e := terrain.Height(high, p); h != frac(50000, 1) || e != api.OK {
			t.Error(p, h, e)
		}
	}
	steep := grid(1000, []int{0, 50000}, []int{50000, 49999})
	if h, e := terrain.Height(steep, point(999, 999)); h != frac(50000*999+50000*999+49999*998001, 1000000) || e != api.OK {
		t.Error(h, e)
	}
	if s, e := terrain.Slope(grid(1, []int{0, 50000}, []int{50000, 0}), 0, 0); s != 50000000 || e != api.OK {
		t.Error(s, e)
	}
}

// TestP15_7_Heights finds that heights are those of nodes, linear along sides, and between those of the corners.
func TestP15_7_Heights(t *testing.T) {
	r := rand.New(rand.NewPCG(15, 7))
	for name, x := range correct() {
		for i, z := range x.Z {
			if h, e := terrain.Height(x, point(i%x.Cols*x.Cell, i/x.Cols*x.Cell)); h != frac(z, 1) || e != api.OK {
				t.Error(name, i, h, e)
			}
			for _, j := range around(x, i) {
				right, up := j%x.Cols-i%x.Cols, j/x.Cols-i/x.Cols
				at := r.IntN(x.Cell + 1)
				want, _ := fraction.New(z*(x.Cell-at)+x.Z[j]*at, x.Cell)
				if h, e := terrain.Height(x, point(i%x.Cols*x.Cell+right*at, i/x.Cols*x.Cell+up*at)); h != want || e != api.OK {
					t.Error(name, i, j, at, h, e, want)
				}
			}
		}
		for range 100 {
			col, row := r.IntN(x.Cols-1), r.IntN(x.Rows-1)
			var ends []api.Frac
			for i, z := range x.Z {
				if isCorner(x, i, col, row) {
					ends = append(ends, frac(z, 1))
				}
			}
			p := point(col*x.Cell+r.IntN(x.Cell+1), row*x.Cell+r.IntN(x.Cell+1))
			h, e := terrain.Height(x, p)
			least, greatest := slices.MinFunc(ends, fraction.Compare), slices.MaxFunc(ends, fraction.Compare)
			if len(ends) != 4 || e != api.OK || fraction.Compare(h, least) < 0 || fraction.Compare(h, greatest) > 0 {
				t.Error(name, p, h, e, ends)
			}
		}
	}
}

// TestP15_7_Water finds that receivers are lower, and that all water comes to pits.
func TestP15_7_Water(t *testing.T) {
	for name, x := range correct() {
		receivers, _ := terrain.Receiver(x)
		counts, _ := terrain.Catchment(x)
		sum := 0
		for i, to := range receivers {
			if to == -1 {
				sum += counts[i]
			} else if x.Z[to] >= x.Z[i] || counts[to] <= counts[i] {
				t.Error(name, i, to, receivers, counts)
			}
		}
		if sum != len(x.Z) {
			t.Error(name, sum, counts)
		}
	}
}

// bounds encloses the true volume above a level, or below it with the sign -1, more narrowly, times 16 Cell^2: cells are
// cut into squares with the side 1, and the part of a square that counts is at least that of the height in its middle, and
// at most the mean of those of the heights at its corners, since heights are linear along each line beside the axes.
func bounds(x api.Terrain, level, sign int) (low, high int) {
	for row := range x.Rows - 1 {
		for col := range x.Cols - 1 {
			// part returns the part of a height that counts, times 4 Cell^2, at distances in halves.
			part := func(u, v int) int {
				sum := 0
				for i, z := range x.Z {
					if isCorner(x, i, col, row) {
						toNode := [2]int{abs(2*x.Cell*(i%x.Cols-col) - u), abs(2*x.Cell*(i/x.Cols-row) - v)}
						sum += (z - level) * (2*x.Cell - toNode[0]) * (2*x.Cell - toNode[1])
					}
				}
				return max(0, sign*sum)
			}
			for u := 1; u < 2*x.Cell; u += 2 {
				for v := 1; v < 2*x.Cell; v += 2 {
					low += 4 * part(u, v)
					high += part(u-1, v-1) + part(u+1, v-1) + part(u-1, v+1) + part(u+1, v+1)
				}
			}
		}
	}
	return low, high
}

func abs(x int) int {
	return max(x, -x)
}

// isIn reports whether what bounds encloses is in an interval.
func isIn(x api.Terrain, low, high int, s api.Span) bool {
	unit := 16 * x.Cell * x.Cell
	return s.Lo*unit <= low && low <= high && high <= s.Hi*unit
}

// TestP15_7_TrueVolumes finds that what encloses the true volumes more narrowly lies in the spans.
func TestP15_7_TrueVolumes(t *testing.T) {
	r := rand.New(rand.NewPCG(15, 8))
	terrains := []api.Terrain{example(), grid(9, []int{0, 9}, []int{9, 0}), grid(8, []int{3, 5, 9}, []int{6, 9, 0})}
	for range 20 {
		terrains = append(terrains, random(r, 15))
	}
	for i, x := range terrains {
		for _, level := range []int{0, slices.Min(x.Z), x.Z[0], 7, slices.Max(x.Z)} {
			cut, fill, e := terrain.Volume(x, level)
			if low, high := bounds(x, level, 1); !isIn(x, low, high, cut) || e != api.OK {
				t.Error(i, x, level, "cut", cut, e, low, high)
			}
			if low, high := bounds(x, level, -1); !isIn(x, low, high, fill) || e != api.OK {
				t.Error(i, x, level, "fill", fill, e, low, high)
			}
		}
	}
}

// TestP15_7_Levels finds that there is no fill below the ground, and that a higher level has no greater cut.
func TestP15_7_Levels(t *testing.T) {
	for name, x := range correct() {
		levels := append(slices.Clone(x.Z), 0, 1, 2, 3, 50000, 49999)
		slices.Sort(levels)
		before := span(1<<50, 1<<50)
		for _, level := range levels {
			cut, fill, e := terrain.Volume(x, level)
			if e != api.OK || interval.Check(cut) != api.OK || interval.Check(fill) != api.OK || cut.Lo < 0 || fill.Lo < 0 {
				t.Error(name, level, cut, fill, e)
			}
			if level <= slices.Min(x.Z) && (fill != span(0, 0) || cut.Hi-cut.Lo > 1) {
				t.Error(name, level, cut, fill)
			}
			if cut.Lo > before.Lo || cut.Hi > before.Hi {
				t.Error(name, level, cut, before)
			}
			before = cut
		}
	}
}
