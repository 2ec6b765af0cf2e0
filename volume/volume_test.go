package volume_test

import (
	"math/big"
	"math/rand/v2"
	"reflect"
	"slices"
	"testing"

	"coupe/api"
	"coupe/interval"
	"coupe/piecewise"
	"coupe/volume"
)

const (
	lowest  = -1 << 63
	highest = 1<<63 - 1
)

func frac(num, den int) api.Frac {
	return api.Frac{Num: num, Den: den}
}

// part returns a piece of a function.
func part(from, to int, coef ...api.Frac) api.Piece {
	return api.Piece{From: from, To: to, Coef: coef}
}

// constant returns a function with one value from 0 to an argument.
func constant(value api.Frac, to int) []api.Piece {
	return []api.Piece{part(0, to, value)}
}

// example returns the curve of the chapter.
func example() api.Curve {
	return api.Curve{
		Height: []api.Piece{part(0, 1000, frac(13, 1), frac(1, 2))},
		Form:   500,
		Taper:  []api.Piece{part(0, 1000, frac(1000, 1), frac(-1, 1))},
	}
}

// with returns the curve of the chapter after a change.
func with(change func(c *api.Curve)) api.Curve {
	c := example()
	change(&c)
	return c
}

// tapered returns the curve of the chapter with another taper.
func tapered(l ...api.Piece) api.Curve {
	return with(func(c *api.Curve) { c.Taper = l })
}

// cylinder returns a curve whose stems are equally thick everywhere.
func cylinder() api.Curve {
	return api.Curve{Height: constant(frac(200, 1), 3000), Form: 1000, Taper: constant(frac(1000, 1), 1000)}
}

// spruce returns a curve with a foot that is thicker than at breast height, and a curved top.
func spruce() api.Curve {
	return api.Curve{
		Height: []api.Piece{part(0, 60, frac(13, 1), frac(13, 10)), part(60, 800, frac(40, 1), frac(41, 50), frac(-1, 2500))},
		Form:   470,
		Taper:  []api.Piece{part(0, 100, frac(1250, 1), frac(-7, 2)), part(100, 700, frac(930, 1), frac(-1, 3)), part(700, 1000, frac(1000, 1), frac(7, 6), frac(-13, 6000))},
	}
}

// correct are curves without an error.
func correct() map[string]api.Curve {
	return map[string]api.Curve{
		"of the chapter":          example(),
		"a cylinder":              cylinder(),
		"spruce":                  spruce(),
		"the least form factor":   with(func(c *api.Curve) { c.Form = 1 }),
		"the best form factor":    with(func(c *api.Curve) { c.Form = 1000 }),
		"no thickness":            tapered(part(0, 1000)),
		"a top below 0":           tapered(part(0, 1000, frac(500, 1), frac(-1, 1))),
		"below 0":                 tapered(part(0, 1000, frac(-1, 3))),
		"a bulge":                 tapered(part(0, 300, frac(1000, 1)), part(300, 301, frac(20000, 1)), part(301, 1000, frac(900, 1))),
		"a step":                  tapered(part(0, 500, frac(200, 1)), part(500, 1000, frac(800, 1))),
		"steps downwards":         tapered(part(0, 631, frac(3000, 1)), part(631, 632, frac(1747, 1)), part(632, 633, frac(50, 1)), part(633, 634, frac(9, 1)), part(634, 635, frac(3, 1)), part(635, 1000)),
		"too large at the top":    tapered(part(0, 1000, frac(1, 1), frac(0, 1), frac(0, 1), frac(1000000, 1))),
		"too fine":                tapered(part(0, 1000, frac(1, 999999937), frac(1, 999999893))),
		"too fine with a measure": tapered(part(0, 1000, frac(1, 999999937), frac(1, 1000000))),
		"one diameter":            with(func(c *api.Curve) { c.Height = []api.Piece{part(200, 201, frac(150, 1))} }),
		"heights below 0":         with(func(c *api.Curve) { c.Height = []api.Piece{part(0, 3000, frac(-1000, 1), frac(2, 3))} }),
		"heights too fine":        with(func(c *api.Curve) { c.Height = []api.Piece{part(0, 3000, frac(1, 999999937), frac(1, 999999893))} }),
	}
}

// wrong is a curve with an error.
type wrong struct {
	name string
	c    api.Curve
	e    int
}

// faults are changes that make errors, in the order in which they are returned.
var faults = []struct {
	name   string
	change func(c *api.Curve)
	e      int
}{
	{"no heights", func(c *api.Curve) { c.Height = nil }, api.ErrNone},
	{"a height that is no fraction", func(c *api.Curve) { c.Height = constant(frac(2, 2), 9) }, api.ErrForm},
	{"heights out of order", func(c *api.Curve) { c.Height = []api.Piece{part(0, 5), part(6, 9)} }, api.ErrOrder},
	{"heights of too large diameters", func(c *api.Curve) { c.Height = constant(frac(9, 1), 3001) }, api.ErrRange},
	{"too many heights", func(c *api.Curve) { c.Height = make([]api.Piece, 9) }, api.ErrLimit},
	{"no form factor", func(c *api.Curve) { c.Form = 0 }, api.ErrRange},
	{"too great a form factor", func(c *api.Curve) { c.Form = 1001 }, api.ErrRange},
	{"no taper", func(c *api.Curve) { c.Taper = nil }, api.ErrNone},
	{"a taper that is no fraction", func(c *api.Curve) { c.Taper = constant(frac(1, 0), 1000) }, api.ErrForm},
	{"a taper out of order", func(c *api.Curve) { c.Taper = []api.Piece{part(0, 500), part(0, 500)} }, api.ErrOrder},
	{"too many tapers", func(c *api.Curve) { c.Taper = make([]api.Piece, 9) }, api.ErrLimit},
	{"a taper that ends too early", func(c *api.Curve) { c.Taper = []api.Piece{part(0, 400), part(400, 999)} }, api.ErrRange},
	{"a taper that ends too late", func(c *api.Curve) { c.Taper = []api.Piece{part(0, 1001)} }, api.ErrRange},
	{"a taper that begins too late", func(c *api.Curve) { c.Taper = []api.Piece{part(1, 1000)} }, api.ErrRange},
	{"a taper that begins below 0", func(c *api.Curve) { c.Taper = []api.Piece{part(-1, 1000)} }, api.ErrRange},
}

// faulty are curves with one error, or with two in different fields.
func faulty() []wrong {
	l := []wrong{
		{"nothing", api.Curve{}, api.ErrNone},
		{"a form factor far below 0", with(func(c *api.Curve) { c.Form = lowest }), api.ErrRange},
		{"a form factor far too great", with(func(c *api.Curve) { c.Form = highest }), api.ErrRange},
	}
	for i, x := range faults {
		l = append(l, wrong{x.name, with(x.change), x.e})
		for _, y := range faults[i+1:] {
			c := with(x.change)
			y.change(&c)
			if once := with(y.change); !reflect.DeepEqual(c, once) {
				l = append(l, wrong{x.name + ", " + y.name, c, x.e})
			}
		}
	}
	return l
}

// answers returns the results of all functions of a curve, and their errors.
func answers(c api.Curve, diameter, height, from, to int) (results []any, errors []int) {
	estimated, e1 := volume.Height(c, diameter)
	whole, e2 := volume.Volume(c, diameter, height)
	tree, e3 := volume.Tree([]api.Curve{c}, api.Tree{Diameter: diameter, Height: height})
	thick, e4 := volume.Diameter(c, diameter, height, from)
	section, e5 := volume.Section(c, diameter, height, from, to)
	return []any{estimated, whole, tree, thick, section}, []int{e1, e2, e3, e4, e5}
}

// checkNothingBesideErrors finds that functions that return an error return nothing else.
func checkNothingBesideErrors(t *testing.T, results []any, errors []int) {
	t.Helper()
	for i, e := range errors {
		if e != api.OK && !reflect.ValueOf(results[i]).IsZero() {
			t.Error("function", i, "returns", results[i], "beside the error", e)
		}
	}
}

// TestP14_1_AnyArguments calls all functions with arguments of any form: none panics, and beside an error there is nothing else.
func TestP14_1_AnyArguments(t *testing.T) {
	numbers := []int{lowest, -1000, -1, 0, 1, 2, 3, 500, 999, 1000, 1001, 3000, 3001, highest}
	r := rand.New(rand.NewPCG(14, 1))
	pick := func() int { return numbers[r.IntN(len(numbers))] }
	pieces := func() []api.Piece {
		var l []api.Piece
		for range r.IntN(3) {
			l = append(l, part(pick(), pick(), frac(pick(), pick()), frac(pick(), 1)))
		}
		return l
	}
	for range 50000 {
		c := api.Curve{Height: pieces(), Form: pick(), Taper: pieces()}
		if r.IntN(2) == 0 {
			c.Taper = constant(frac(pick(), 1+r.IntN(3)), 1000)
		}
		results, errors := answers(c, pick(), pick(), pick(), pick())
		checkNothingBesideErrors(t, results, errors)
		s, e := volume.Tree(slices.Repeat([]api.Curve{c}, r.IntN(3)), api.Tree{Species: pick(), Diameter: pick(), Height: pick(), Quality: pick()})
		checkNothingBesideErrors(t, []any{s}, []int{e})
	}
	for _, c := range correct() {
		for range 1000 {
			results, errors := answers(c, pick(), pick(), pick(), pick())
			checkNothingBesideErrors(t, results, errors)
		}
	}
}

func TestP14_1_ArgumentsAreKept(t *testing.T) {
	c := spruce()
	c.Height = append(make([]api.Piece, 0, 4), c.Height...)
	c.Taper = append(make([]api.Piece, 0, 5), c.Taper...)
	heights, tapers := c.Height[:4], c.Taper[:5]
	heights[3], tapers[4] = part(1, 2), part(3, 4)
	first, _ := answers(c, 200, 180, 20, 160)
	if again, _ := answers(c, 200, 180, 20, 160); !reflect.DeepEqual(again, first) {
		t.Error(again, first)
	}
	want := spruce()
	if !reflect.DeepEqual(heights, append(want.Height, api.Piece{}, part(1, 2))) || !reflect.DeepEqual(tapers, append(want.Taper, api.Piece{}, part(3, 4))) {
		t.Error("arguments were changed", heights, tapers)
	}
}

func TestP14_1_Check(t *testing.T) {
	for name, c := range correct() {
		if e := volume.Check(c); e != api.OK {
			t.Error(name, e)
		}
	}
	for _, x := range faulty() {
		if e := volume.Check(x.c); e != x.e {
			t.Error(x.name, e)
		}
	}
}

// TestP14_1_First finds that all functions return the error of Check first, whatever the numbers are.
func TestP14_1_First(t *testing.T) {
	for _, x := range faulty() {
		for _, n := range [][4]int{{200, 100, 25, 50}, {200, 100, 50, 25}, {0, 0, 0, 0}, {-1, 1001, 7, 9}, {200, 100, 101, -1}, {highest, highest, lowest, highest}} {
			results, errors := answers(x.c, n[0], n[1], n[2], n[3])
			checkNothingBesideErrors(t, results, errors)
			if slices.ContainsFunc(errors, func(e int) bool { return e != x.e }) {
				t.Error(x.name, n, errors)
			}
		}
	}
}

func TestP14_1_Height(t *testing.T) {
	line := func(first, second api.Frac) api.Curve {
		return with(func(c *api.Curve) { c.Height = []api.Piece{part(0, 3000, first, second)} })
	}
	for i, x := range []struct {
		c           api.Curve
		diameter, h int
		e           int
	}{
		{example(), 200, 113, api.OK},
		{example(), 1, 14, api.OK}, // 27/2
		{example(), 3, 15, api.OK}, // 29/2
		{example(), 1000, 513, api.OK},
		{line(frac(1, 3), frac(1, 1)), 5, 5, api.OK},
		{line(frac(2, 3), frac(1, 1)), 5, 6, api.OK},
		{line(frac(-1, 2), frac(1, 1)), 1, 1, api.OK},            // 1/2
		{line(frac(-501, 1000), frac(1, 1)), 1, 0, api.ErrRange}, // below 1/2
		{line(frac(-3, 2), frac(1, 1)), 1, 0, api.ErrRange},      // -1/2
		{line(frac(-9, 1), frac(1, 1)), 1, 0, api.ErrRange},
		{line(frac(499, 1000), frac(1, 1)), 1000, 1000, api.OK},
		{line(frac(1, 2), frac(1, 1)), 1000, 0, api.ErrRange}, // 2001/2
		{line(frac(0, 1), frac(1, 3)), 3000, 1000, api.OK},
		{line(frac(0, 1), frac(1000000, 1)), 3000, 0, api.ErrRange},
		{correct()["one diameter"], 200, 150, api.OK},
		{correct()["one diameter"], 201, 150, api.OK},
		{correct()["one diameter"], 199, 0, api.ErrRange},
		{correct()["one diameter"], 202, 0, api.ErrRange},
		{correct()["heights too fine"], 1, 0, api.ErrLimit},
		{example(), 1001, 0, api.ErrRange},
		{example(), 0, 0, api.ErrRange},
		{example(), -1, 0, api.ErrRange},
		{example(), 3001, 0, api.ErrRange},
		{cylinder(), 3000, 200, api.OK},
		{cylinder(), 3001, 0, api.ErrRange},
		{cylinder(), lowest, 0, api.ErrRange},
		{cylinder(), highest, 0, api.ErrRange},
	} {
		if h, e := volume.Height(x.c, x.diameter); h != x.h || e != x.e {
			t.Error(i, h, e)
		}
	}
}

func TestP14_1_Volume(t *testing.T) {
	for i, x := range []struct {
		c                api.Curve
		diameter, height int
		lo, hi           int
		e                int
	}{
		{example(), 200, 100, 157, 158, api.OK},
		{example(), 1, 1, 0, 1, api.OK},
		{cylinder(), 3000, 1000, 706858, 706860, api.OK}, // 706858.2, 706859.1
		{cylinder(), 1000, 1000, 78539, 78540, api.OK},   // 78539.8, 78539.9
		{cylinder(), 2000, 250, 78539, 78540, api.OK},
		{cylinder(), 3000, 1, 706, 707, api.OK}, // 706.858
		{example(), 0, 100, 0, 0, api.ErrRange},
		{example(), -1, 100, 0, 0, api.ErrRange},
		{example(), 3001, 100, 0, 0, api.ErrRange},
		{example(), 200, 0, 0, 0, api.ErrRange},
		{example(), 200, -1, 0, 0, api.ErrRange},
		{example(), 200, 1001, 0, 0, api.ErrRange},
		{example(), highest, highest, 0, 0, api.ErrRange},
		{example(), lowest, lowest, 0, 0, api.ErrRange},
	} {
		if s, e := volume.Volume(x.c, x.diameter, x.height); s != (api.Span{Lo: x.lo, Hi: x.hi}) || e != x.e {
			t.Error(i, s, e)
		}
	}
}

// enclosure multiplies by a quarter of pi, divides by a power of ten, and rounds outwards.
func enclosure(low, high int, digits int) api.Span {
	unit := new(big.Int).Exp(big.NewInt(10), big.NewInt(int64(digits)), nil)
	lo := new(big.Int).Mul(big.NewInt(785398), big.NewInt(int64(low)))
	hi := new(big.Int).Mul(big.NewInt(-785399), big.NewInt(int64(high)))
	// Euclidean division rounds down.
	return api.Span{Lo: int(lo.Div(lo, unit).Int64()), Hi: -int(hi.Div(hi, unit).Int64())}
}

func TestP14_1_VolumeDefinition(t *testing.T) {
	r := rand.New(rand.NewPCG(14, 2))
	for i := range 100000 {
		c := example()
		c.Form = 1 + r.IntN(1000)
		d, h := 1+r.IntN(3000), 1+r.IntN(1000)
		if i%4 == 0 { // products that are divisible, so that only the quarter of pi is rounded
			c.Form, d, h = 1000, 100*(1+r.IntN(30)), 10*(1+r.IntN(100))
		}
		if s, e := volume.Volume(c, d, h); s != enclosure(c.Form*d*d*h, c.Form*d*d*h, 13) || e != api.OK {
			t.Fatal(c.Form, d, h, s, e)
		}
	}
}

func TestP14_1_Tree(t *testing.T) {
	table := []api.Curve{example(), cylinder(), {}}
	for i, x := range []struct {
		l      []api.Curve
		tree   api.Tree
		lo, hi int
		e      int
	}{
		{table, api.Tree{Species: 0, Diameter: 200, Height: 100}, 157, 158, api.OK},
		{table, api.Tree{Species: 0, Diameter: 200}, 177, 178, api.OK}, // of the height 113: 177.5
		{table, api.Tree{Species: 1, Diameter: 200, Height: 100}, 314, 315, api.OK},
		{table, api.Tree{Species: 1, Diameter: 1000}, 15707, 15708, api.OK},
		{table, api.Tree{Species: 0, Diameter: 200, Height: 100, Quality: 2}, 157, 158, api.OK},
		{table, api.Tree{Species: 0, Diameter: 200, Height: 100, Quality: -7}, 157, 158, api.OK},
		{table, api.Tree{Species: 0, Diameter: 2000, Height: 100}, 15707, 15708, api.OK}, // Height has no such diameter, but is not used
		{table, api.Tree{Species: 0, Diameter: 2000}, 0, 0, api.ErrRange},
		{table, api.Tree{Species: 0, Diameter: 0}, 0, 0, api.ErrRange},
		{table, api.Tree{Species: 0, Diameter: 0, Height: 100}, 0, 0, api.ErrRange},
		{table, api.Tree{Species: 0, Diameter: 3001, Height: 100}, 0, 0, api.ErrRange},
		{table, api.Tree{Species: 0, Diameter: 200, Height: -1}, 0, 0, api.ErrRange},
		{table, api.Tree{Species: 0, Diameter: 200, Height: 1001}, 0, 0, api.ErrRange},
		{table, api.Tree{Species: 2, Diameter: 200, Height: 100}, 0, 0, api.ErrNone},
		{table, api.Tree{Species: 2, Diameter: 200}, 0, 0, api.ErrNone},
		{table, api.Tree{Species: 2, Diameter: -200, Height: -1}, 0, 0, api.ErrNone},
		{table, api.Tree{Species: 3, Diameter: 200, Height: 100}, 0, 0, api.ErrRange},
		{table, api.Tree{Species: -1, Diameter: 200, Height: 100}, 0, 0, api.ErrRange},
		{table, api.Tree{Species: highest, Diameter: 200, Height: 100}, 0, 0, api.ErrRange},
		{table, api.Tree{Species: lowest}, 0, 0, api.ErrRange},
		{nil, api.Tree{Species: 0, Diameter: 200, Height: 100}, 0, 0, api.ErrRange},
		{[]api.Curve{correct()["heights too fine"]}, api.Tree{Diameter: 1}, 0, 0, api.ErrLimit},
		{[]api.Curve{correct()["heights too fine"]}, api.Tree{Diameter: 200, Height: 100}, 157, 158, api.OK},
		{[]api.Curve{correct()["heights below 0"]}, api.Tree{Diameter: 3}, 0, 0, api.ErrRange},
	} {
		if s, e := volume.Tree(x.l, x.tree); s != (api.Span{Lo: x.lo, Hi: x.hi}) || e != x.e {
			t.Error(i, s, e)
		}
	}
}

func TestP14_1_Diameter(t *testing.T) {
	all := correct()
	for i, x := range []struct {
		c                    api.Curve
		diameter, height, at int
		want                 int
		e                    int
	}{
		{example(), 200, 100, 25, 150, api.OK},
		{example(), 200, 100, 0, 200, api.OK},
		{example(), 200, 100, 99, 2, api.OK},
		{example(), 200, 100, 100, 0, api.OK},
		{example(), 200, 3, 1, 133, api.OK}, // at 333: 667 200 / 1000
		{example(), 1, 100, 0, 1, api.OK},
		{example(), 1, 100, 1, 0, api.OK}, // 990/1000
		{example(), 3000, 1000, 0, 3000, api.OK},
		{example(), 3000, 1000, 1000, 0, api.OK},
		{example(), 3000, 1000, 999, 3, api.OK},
		{all["no thickness"], 200, 100, 50, 0, api.OK},
		{all["below 0"], 200, 100, 50, 0, api.OK},
		{all["a top below 0"], 200, 100, 50, 0, api.OK},
		{all["a top below 0"], 200, 100, 49, 2, api.OK},
		{all["a top below 0"], 200, 100, 51, 0, api.OK},
		{all["a bulge"], 150, 10, 3, 3000, api.OK},
		{all["a bulge"], 149, 10, 3, 2980, api.OK},
		{all["a bulge"], 151, 10, 3, 3000, api.OK}, // 3020
		{all["a bulge"], 3000, 10, 3, 3000, api.OK},
		{all["a bulge"], 200, 10, 4, 180, api.OK},
		{all["too fine"], 200, 100, 0, 0, api.OK},
		{all["too fine"], 200, 100, 1, 0, api.ErrLimit},
		{all["too large at the top"], 200, 1000, 1, 3000, api.OK}, // 200000
		{all["too large at the top"], 1004, 1000, 999, 0, api.ErrLimit},
		{all["too large at the top"], 1000, 1000, 999, 3000, api.OK},
		{all["too large at the top"], 200, 1000, 1000, 0, api.ErrLimit},
		{all["too fine with a measure"], 1, 1000, 1, 0, api.ErrLimit},
		{all["too fine with a measure"], 1000, 1000, 1, 0, api.OK},
		{example(), 0, 100, 25, 0, api.ErrRange},
		{example(), 3001, 100, 25, 0, api.ErrRange},
		{example(), 200, 0, 0, 0, api.ErrRange},
		{example(), 200, 1001, 25, 0, api.ErrRange},
		{example(), 200, 100, -1, 0, api.ErrRange},
		{example(), 200, 100, 101, 0, api.ErrRange},
		{example(), 200, 100, lowest, 0, api.ErrRange},
		{example(), 200, highest, highest, 0, api.ErrRange},
		{all["too fine"], 0, 100, 1, 0, api.ErrRange},
		{all["too fine"], 200, 100, -1, 0, api.ErrRange},
	} {
		if d, e := volume.Diameter(x.c, x.diameter, x.height, x.at); d != x.want || e != x.e {
			t.Error(i, d, e)
		}
	}
}

// wantDiameter computes the diameter of a stem with fractions of any size.
func wantDiameter(c api.Curve, diameter, height, at int) (int, int) {
	y, e := piecewise.Eval(c.Taper, 1000*at/height)
	if e != api.OK {
		return 0, e
	}
	limit := big.NewInt(api.MaxFrac)
	x := big.NewRat(int64(y.Num), int64(y.Den))
	x.Mul(x, big.NewRat(int64(diameter), 1000))
	if x.Num().CmpAbs(limit) > 0 || x.Denom().Cmp(limit) > 0 {
		return 0, api.ErrLimit
	}
	floor := new(big.Int).Div(x.Num(), x.Denom())
	switch {
	case floor.Sign() < 0:
		return 0, api.OK
	case floor.Cmp(big.NewInt(api.MaxDiameter)) > 0:
		return api.MaxDiameter, api.OK
	}
	return int(floor.Int64()), api.OK
}

// wantSection adds up the slices of a stem.
func wantSection(c api.Curve, diameter, height, from, to int) (api.Span, int) {
	before, e := wantDiameter(c, diameter, height, from)
	if e != api.OK {
		return api.Span{}, e
	}
	low, high := 0, 0
	for at := from + 1; at <= to; at++ {
		d, e := wantDiameter(c, diameter, height, at)
		if e != api.OK {
			return api.Span{}, e
		}
		if d < before {
			low, high = low+d*d, high+before*before
		} else {
			low, high = low+before*before, high+d*d
		}
		before = d
	}
	return enclosure(low, high, 10), api.OK
}

// stems calls a function for stems of all curves, with two heights in ascending order.
func stems(seed uint64, count int, f func(name string, c api.Curve, diameter, height, from, to int)) {
	r := rand.New(rand.NewPCG(14, seed))
	for name, c := range correct() {
		for range count {
			tallest := []int{5, 60, 300, 1000}[r.IntN(4)]
			height := 1 + r.IntN(tallest)
			a, b := r.IntN(height+1), r.IntN(height+1)
			f(name, c, 1+r.IntN(3000), height, min(a, b), max(a, b))
		}
	}
}

func TestP14_1_DiameterDefinition(t *testing.T) {
	stems(3, 2000, func(name string, c api.Curve, diameter, height, from, to int) {
		for _, at := range []int{from, to, height} {
			want, f := wantDiameter(c, diameter, height, at)
			if d, e := volume.Diameter(c, diameter, height, at); d != want || e != f {
				t.Fatal(name, diameter, height, at, d, want, e, f)
			}
		}
	})
}

func TestP14_1_Section(t *testing.T) {
	all := correct()
	for i, x := range []struct {
		c                          api.Curve
		diameter, height, from, to int
		lo, hi                     int
		e                          int
	}{
		{example(), 200, 100, 99, 100, 0, 1, api.OK},
		{example(), 200, 100, 50, 50, 0, 0, api.OK},
		{example(), 200, 100, 0, 0, 0, 0, api.OK},
		{example(), 200, 100, 100, 100, 0, 0, api.OK},
		{example(), 200, 2, 0, 2, 0, 4, api.OK},     // 200, 100, 0: 10000 and 50000
		{example(), 2000, 2, 0, 1, 78, 315, api.OK}, // 2000, 1000: 78.5, 314.2
		{cylinder(), 2000, 1, 0, 1, 314, 315, api.OK},
		{cylinder(), 3000, 1000, 0, 1000, 706858, 706860, api.OK},
		{cylinder(), 1000, 100, 20, 30, 785, 786, api.OK},
		{all["a step"], 1000, 10, 4, 5, 3, 51, api.OK},                        // 200, 800: 3.1, 50.3
		{cylinder(), 2791, 5, 0, 5, 3058, 3060, api.OK},                       // 3058.99994, 3059.004
		{cylinder(), 2377, 25, 0, 25, 11094, 11095, api.OK},                   // 11094.00004, 11094.01
		{cylinder(), 2693, 22, 0, 22, 12530, 12532, api.OK},                   // 12530.98, 12531.00003
		{all["steps downwards"], 1000, 1000, 0, 1000, 445560, 446269, api.OK}, // 446268.0000000001
		{all["no thickness"], 1000, 10, 0, 10, 0, 0, api.OK},
		{example(), 200, 100, 51, 50, 0, 0, api.ErrOrder},
		{example(), 200, 100, 100, 0, 0, 0, api.ErrOrder},
		{example(), 0, 100, 50, 51, 0, 0, api.ErrRange},
		{example(), 3001, 100, 50, 51, 0, 0, api.ErrRange},
		{example(), 200, 0, 0, 0, 0, 0, api.ErrRange},
		{example(), 200, 1001, 50, 51, 0, 0, api.ErrRange},
		{example(), 200, 100, -1, 50, 0, 0, api.ErrRange},
		{example(), 200, 100, 50, -1, 0, 0, api.ErrRange},
		{example(), 200, 100, 101, 50, 0, 0, api.ErrRange},
		{example(), 200, 100, 50, 101, 0, 0, api.ErrRange},
		{example(), 200, 100, 101, 102, 0, 0, api.ErrRange},
		{example(), 200, 100, lowest, highest, 0, 0, api.ErrRange},
		{example(), 200, 100, highest, lowest, 0, 0, api.ErrRange},
		{all["too fine"], 200, 100, 0, 0, 0, 0, api.OK},
		{all["too fine"], 200, 100, 1, 1, 0, 0, api.ErrLimit},
		{all["too fine"], 200, 100, 0, 1, 0, 0, api.ErrLimit},
		{all["too fine"], 200, 100, 2, 1, 0, 0, api.ErrOrder},
		{all["too fine"], 200, 100, 2, 101, 0, 0, api.ErrRange},
		{all["too large at the top"], 200, 1000, 1000, 1000, 0, 0, api.ErrLimit},
		{all["too large at the top"], 200, 1000, 500, 1000, 0, 0, api.ErrLimit},
	} {
		if s, e := volume.Section(x.c, x.diameter, x.height, x.from, x.to); s != (api.Span{Lo: x.lo, Hi: x.hi}) || e != x.e {
			t.Error(i, s, e)
		}
	}
}

func TestP14_1_SectionDefinition(t *testing.T) {
	stems(4, 80, func(name string, c api.Curve, diameter, height, from, to int) {
		want, f := wantSection(c, diameter, height, from, to)
		if s, e := volume.Section(c, diameter, height, from, to); s != want || e != f {
			t.Fatal(name, diameter, height, from, to, s, want, e, f)
		}
	})
}

// TestP14_2_Growth finds that volumes are never less for thicker or higher trees, and that their width is small.
func TestP14_2_Growth(t *testing.T) {
	r := rand.New(rand.NewPCG(14, 5))
	for range 30000 {
		c := example()
		c.Form = 1 + r.IntN(1000)
		d, h := 1+r.IntN(2999), 1+r.IntN(999)
		s, e := volume.Volume(c, d, h)
		thicker, f := volume.Volume(c, d+1, h)
		higher, g := volume.Volume(c, d, h+1)
		if e != api.OK || f != api.OK || g != api.OK {
			t.Fatal(c.Form, d, h, e, f, g)
		}
		if thicker.Lo < s.Lo || thicker.Hi < s.Hi || higher.Lo < s.Lo || higher.Hi < s.Hi {
			t.Fatal(c.Form, d, h, s, thicker, higher)
		}
		if 785398*(s.Hi-s.Lo-2) > s.Lo || s.Lo > s.Hi {
			t.Fatal(c.Form, d, h, s)
		}
	}
}

// TestP14_2_Cylinder finds that a stem that is equally thick everywhere has the volume with the form factor 1000.
func TestP14_2_Cylinder(t *testing.T) {
	r := rand.New(rand.NewPCG(14, 6))
	for range 300 {
		d, h := 1+r.IntN(3000), 1+r.IntN(1000)
		want, e := volume.Volume(cylinder(), d, h)
		if s, f := volume.Section(cylinder(), d, h, 0, h); s != want || e != api.OK || f != api.OK {
			t.Fatal(d, h, s, want, e, f)
		}
	}
}

// TestP14_2_Sections finds that two sections that meet enclose the section of both, and are wider by at most 1 at each end.
func TestP14_2_Sections(t *testing.T) {
	r := rand.New(rand.NewPCG(14, 7))
	met := 0
	stems(8, 60, func(name string, c api.Curve, diameter, height, from, to int) {
		between := from + r.IntN(to-from+1)
		both, e := volume.Section(c, diameter, height, from, to)
		below, f := volume.Section(c, diameter, height, from, between)
		above, g := volume.Section(c, diameter, height, between, to)
		if e != api.OK {
			return
		}
		sum, h := interval.Add(below, above)
		if f != api.OK || g != api.OK || h != api.OK || !interval.Within(both, sum) {
			t.Fatal(name, diameter, height, from, between, to, f, g, h)
		}
		if both.Lo-sum.Lo > 1 || sum.Hi-both.Hi > 1 {
			t.Fatal(name, diameter, height, from, between, to, both, sum)
		}
		met++
	})
	if met < 500 {
		t.Error("only", met)
	}
}
