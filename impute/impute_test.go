package impute_test

import (
	"math/rand/v2"
	"reflect"
	"slices"
	"testing"

	"coupe/api"
	"coupe/impute"
	"coupe/volume"
)

const (
	lowest  = -1 << 63
	highest = 1<<63 - 1
)

func frac(num, den int) api.Frac {
	return api.Frac{Num: num, Den: den}
}

// curve returns the curve of the chapter with other heights, up to a diameter.
func curve(to int, coef ...api.Frac) api.Curve {
	return api.Curve{
		Height: []api.Piece{{From: 0, To: to, Coef: coef}},
		Form:   500,
		Taper:  []api.Piece{{From: 0, To: 1000, Coef: []api.Frac{frac(1000, 1), frac(-1, 1)}}},
	}
}

// example returns the curve of the chapter, whose domain ends at a diameter.
func example(to int) api.Curve {
	return curve(to, frac(13, 1), frac(1, 2))
}

// silent returns a curve that has no height for any tree.
func silent() api.Curve {
	return curve(1000, frac(0, 1))
}

// one returns a list of one curve.
func one(c api.Curve) []api.Curve {
	return []api.Curve{c}
}

// trees returns trees of the first species, each with its diameter before its height.
func trees(numbers ...int) []api.Tree {
	return of(0, numbers...)
}

// of returns trees of a species, each with its diameter before its height.
func of(species int, numbers ...int) []api.Tree {
	var l []api.Tree
	for pair := range slices.Chunk(numbers, 2) {
		l = append(l, api.Tree{Species: species, Diameter: pair[0], Height: pair[1]})
	}
	return l
}

// same reports whether two results are equal, where an empty list and nil are.
func same(a, b api.Filled) bool {
	return slices.Equal(a.Trees, b.Trees) && slices.Equal(a.Source, b.Source)
}

// must returns the result of Fill if it has no error.
func must(f api.Filled, e int) api.Filled {
	if e != api.OK {
		panic(e)
	}
	return f
}

// random returns curves and a list of trees for which Fill has no error, with some trees that are not measured.
func random(r *rand.Rand) ([]api.Curve, []api.Tree) {
	var c []api.Curve
	for range 1 + r.IntN(api.MaxSpecies) {
		c = append(c, []api.Curve{example(1000), example(1 + r.IntN(1000)), silent(), curve(3000, frac(-40, 1), frac(2, 3))}[r.IntN(4)])
	}
	l := make([]api.Tree, r.IntN([]int{2, 6, 20, api.MaxTrees + 1}[r.IntN(4)]))
	greatest := []int{60, 400, api.MaxDiameter}[r.IntN(3)]
	share := r.IntN(5)
	for i := range l {
		l[i] = api.Tree{Species: r.IntN(len(c)), Diameter: 1 + r.IntN(greatest), Quality: r.IntN(3)}
		if r.IntN(4) < share {
			l[i].Height = 1 + r.IntN(api.MaxHeight)
		}
	}
	return c, l
}

// lists calls a function for many arguments for which Fill has no error.
func lists(seed uint64, f func(c []api.Curve, l []api.Tree, standard int)) {
	f(nil, nil, 1)
	f(one(example(1000)), trees(200, 150, 240, 161, 230, 0, 400, 0, 900, 0), 180)
	f(one(silent()), slices.Repeat(trees(api.MaxDiameter, 0), api.MaxTrees), api.MaxHeight)
	r := rand.New(rand.NewPCG(20, seed))
	for range 3000 {
		c, l := random(r)
		f(c, l, 1+r.IntN(api.MaxHeight))
	}
}

// checkNothingBesideError finds that beside an error there is nothing else.
func checkNothingBesideError(t *testing.T, count, e int, f api.Filled, fillError int) {
	t.Helper()
	if e != api.OK && count != 0 || fillError != api.OK && !same(f, api.Filled{}) {
		t.Error("beside an error there are", count, f)
	}
}

// TestP1_AnyArguments calls all functions with arguments of any form: none panics, and beside an error there is nothing else.
func TestP1_AnyArguments(t *testing.T) {
	numbers := []int{lowest, lowest + 1, -1, 0, 1, 2, 5, 6, 49, 50, 51, 1000, 1001, 3000, 3001, highest - 1, highest}
	r := rand.New(rand.NewPCG(20, 1))
	pick := func() int { return numbers[r.IntN(len(numbers))] }
	curves := [][]api.Curve{nil, one(example(1000)), one(silent()), {example(9), silent(), example(3000)}, {{}}, slices.Repeat(one(example(9)), 7), {example(9), {Form: highest}}}
	for range 50000 {
		l := make([]api.Tree, r.IntN(5))
		for i := range l {
			l[i] = api.Tree{Species: pick(), Diameter: pick(), Height: pick(), Quality: pick()}
			if r.IntN(3) > 0 {
				l[i] = api.Tree{Species: r.IntN(3), Diameter: 1 + r.IntN(200), Height: r.IntN(3)}
			}
		}
		c := curves[r.IntN(len(curves))]
		standard := pick()
		count, e := impute.Missing(l)
		f, g := impute.Fill(c, l, standard)
		checkNothingBesideError(t, count, e, f, g)
		if h := impute.Verify(c, l, standard, f); h != g {
			t.Error(c, l, standard, f, g, h)
		}
		impute.Verify(c, l, standard, api.Filled{Trees: l, Source: []int{pick(), pick()}})
	}
	huge := make([]api.Tree, 1<<16)
	count, e := impute.Missing(huge)
	f, g := impute.Fill(make([]api.Curve, 1<<16), huge, highest)
	checkNothingBesideError(t, count, e, f, g)
	impute.Verify(one(silent()), trees(1, 1), 1, api.Filled{Trees: huge, Source: make([]int, 1<<16)})
}

// roomy returns a list with space behind it, in which something stands.
func roomy[T any](l []T, spare T) []T {
	return append(append(make([]T, 0, len(l)+2), l...), spare, spare)[:len(l)]
}

func TestP20_1_ArgumentsAreKept(t *testing.T) {
	c := roomy(one(example(1000)), silent())
	c[0].Height = roomy(c[0].Height, api.Piece{From: 7})
	c[0].Taper = roomy(c[0].Taper, api.Piece{To: 7})
	c[0].Height[0].Coef = roomy(c[0].Height[0].Coef, frac(7, 7))
	l := roomy(trees(200, 150, 230, 0, 900, 0), api.Tree{Diameter: 77})
	kept := func() []any {
		return []any{
			slices.Clone(c[:cap(c)]), slices.Clone(l[:cap(l)]), slices.Clone(c[0].Height[:3]),
			slices.Clone(c[0].Taper[:3]), slices.Clone(c[0].Height[0].Coef[:4]),
		}
	}
	before := kept()
	f := must(impute.Fill(c, l, 180))
	f.Trees, f.Source = roomy(f.Trees, api.Tree{Diameter: 88}), roomy(f.Source, 88)
	trees, sources := slices.Clone(f.Trees[:5]), slices.Clone(f.Source[:5])
	if count, e := impute.Missing(l); count != 2 || e != api.OK {
		t.Error(count, e)
	}
	if e := impute.Verify(c, l, 180, f); e != api.OK {
		t.Error(e)
	}
	if !reflect.DeepEqual(before, kept()) || !slices.Equal(trees, f.Trees[:5]) || !slices.Equal(sources, f.Source[:5]) {
		t.Error("arguments were changed")
	}
	first, second := must(impute.Fill(c, l, 180)), must(impute.Fill(c, l, 180))
	for i := range first.Trees[:cap(first.Trees)] {
		first.Trees[:cap(first.Trees)][i] = api.Tree{Species: -7}
	}
	for i := range first.Source[:cap(first.Source)] {
		first.Source[:cap(first.Source)][i] = -7
	}
	if !reflect.DeepEqual(before, kept()) {
		t.Error("results share memory with arguments")
	}
	if third := must(impute.Fill(c, l, 180)); !same(second, third) {
		t.Error("results share memory with each other", second, third)
	}
}

func TestP20_1_Missing(t *testing.T) {
	for i, x := range []struct {
		l        []api.Tree
		count, e int
	}{
		{trees(200, 150, 240, 161, 230, 0, 400, 0, 900, 0), 3, api.OK},
		{nil, 0, api.OK},
		{trees(1, 1, 3000, 1000), 0, api.OK},
		{trees(1, 0, 3000, 0), 2, api.OK},
		{slices.Repeat(trees(5, 0), 200), 200, api.OK},
		{trees(5, -1, 5, lowest, 5, 1001, 5, highest), 0, api.OK}, // other heights than 0 are measured ones
		{[]api.Tree{{Species: -1, Diameter: 5, Quality: 9}, {Species: 99, Diameter: 5, Height: 5}}, 1, api.OK},
		{slices.Repeat(trees(5, 0), 201), 0, api.ErrLimit},
		{slices.Repeat(trees(0, 0), 201), 0, api.ErrLimit},
		{trees(0, 0), 0, api.ErrRange},
		{trees(5, 0, -1, 5), 0, api.ErrRange},
		{trees(5, 0, 5, 0, 3001, 0), 0, api.ErrRange},
	} {
		if count, e := impute.Missing(x.l); count != x.count || e != x.e {
			t.Error(i, count, e)
		}
	}
}

func TestP20_1_Examples(t *testing.T) {
	l := trees(200, 150, 240, 161, 230, 0, 400, 0, 900, 0)
	want := api.Filled{Trees: trees(200, 150, 240, 161, 230, 156, 400, 213, 900, 463), Source: []int{0, 0, 1, 2, 2}}
	if f, e := impute.Fill(one(example(1000)), l, 180); e != api.OK || !same(f, want) {
		t.Error(f, e)
	}
	want = api.Filled{Trees: trees(200, 150, 240, 161, 230, 156, 400, 213, 900, 156), Source: []int{0, 0, 1, 2, 3}}
	if f, e := impute.Fill(one(example(800)), l, 180); e != api.OK || !same(f, want) {
		t.Error(f, e)
	}
}

// TestP20_1_Rules fills in the height of the last tree of a list.
func TestP20_1_Rules(t *testing.T) {
	high := frac(1000000, 1)
	for i, x := range []struct {
		c              []api.Curve
		l              []api.Tree
		height, source int
	}{
		// Neighbours: as far away as they may be, and farther.
		{one(example(1000)), trees(150, 90, 200, 0), 90, 1},
		{one(example(1000)), trees(250, 90, 200, 0), 90, 1},
		{one(example(1000)), trees(149, 90, 200, 0), 113, 2},
		{one(example(1000)), trees(251, 90, 200, 0), 113, 2},
		{one(example(1000)), trees(200, 90, 200, 0), 90, 1},
		{one(example(1000)), trees(149, 90, 150, 200, 250, 300, 251, 900, 200, 0), 250, 1},
		{one(example(3000)), trees(1, 7, 51, 0), 7, 1},
		{one(example(3000)), trees(2950, 7, 3000, 0), 7, 1},
		// Their mean, rounded: halves up.
		{one(example(1000)), trees(200, 90, 200, 91, 200, 0), 91, 1},
		{one(example(1000)), trees(200, 90, 200, 91, 200, 91, 200, 0), 91, 1},
		{one(example(1000)), trees(200, 90, 200, 90, 200, 91, 200, 0), 90, 1},
		{one(example(1000)), trees(200, 1, 200, 2, 200, 0), 2, 1},
		{one(example(1000)), trees(200, 1, 200, 1000, 200, 0), 501, 1},
		{one(example(1000)), trees(200, 1, 200, 1, 200, 0), 1, 1},
		{one(example(1000)), trees(200, 1000, 200, 0), 1000, 1},
		// Neighbours that are not measured, or got a height by these rules, do not count.
		{one(example(1000)), trees(200, 0, 200, 0), 113, 2},
		{one(example(1000)), trees(120, 90, 160, 0, 200, 0), 113, 2},
		{one(example(1000)), trees(200, 90, 200, 0, 200, 0), 90, 1},
		// Those of another species do not count; damaged and dead ones do.
		{slices.Repeat(one(example(1000)), 2), slices.Concat(of(1, 200, 90), of(0, 200, 0)), 113, 2},
		{slices.Repeat(one(example(1000)), 2), slices.Concat(of(0, 200, 90), of(1, 200, 0)), 113, 2},
		{slices.Repeat(one(example(1000)), 2), slices.Concat(of(1, 200, 90), of(0, 200, 70), of(1, 200, 0)), 90, 1},
		{one(example(1000)), []api.Tree{{Diameter: 200, Height: 90, Quality: 2}, {Diameter: 210, Height: 92, Quality: 1}, {Diameter: 200, Quality: 2}}, 91, 1},
		{one(example(1000)), []api.Tree{{Diameter: 200, Height: 90, Quality: -5}, {Diameter: 200, Quality: 77}}, 90, 1},
		// The curve of the species, and its rounded height.
		{[]api.Curve{example(1000), curve(1000, frac(50, 1))}, of(1, 200, 0), 50, 2},
		{[]api.Curve{example(1000), curve(1000, frac(50, 1))}, of(0, 200, 0), 113, 2},
		{one(example(1000)), trees(201, 0), 114, 2},
		{one(example(1000)), trees(500, 90, 1, 0), 14, 2},
		{one(example(1000)), trees(1000, 0), 513, 2},
		{one(curve(3000, frac(1000, 1))), trees(3000, 0), 1000, 2},
		{one(curve(3000, frac(1, 2))), trees(3000, 0), 1, 2},
		// The curve has no height: outside of its domain, too low, too high, too large a number.
		{one(example(1000)), trees(500, 90, 1001, 0), 90, 3},
		{one(curve(1000, frac(1, 3))), trees(500, 90, 100, 0), 90, 3},
		{one(curve(1000, frac(-5, 1))), trees(500, 90, 100, 0), 90, 3},
		{one(curve(1000, frac(1001, 1))), trees(500, 90, 100, 0), 90, 3},
		{one(curve(1000, high, high, high, high)), trees(500, 90, 1000, 0), 90, 3},
		{one(curve(1000, frac(1, 999999937), frac(1, 999999929))), trees(500, 90, 999, 0), 90, 3},
		// The mean of the species, near and far.
		{one(silent()), trees(1, 90, 3000, 91, 500, 0), 91, 3},
		{one(silent()), trees(1, 90, 3000, 90, 3000, 91, 500, 0), 90, 3},
		{one(silent()), trees(490, 90, 3000, 91, 500, 0), 90, 1},
		{[]api.Curve{silent(), silent()}, slices.Concat(of(1, 900, 70), of(0, 900, 80, 500, 0)), 80, 3},
		{[]api.Curve{silent(), silent()}, slices.Concat(of(1, 900, 70, 950, 0), of(1, 500, 0)), 70, 3},
		// Nothing is known.
		{one(silent()), trees(500, 0), 180, 4},
		{one(silent()), trees(500, 0, 500, 0), 180, 4},
		{[]api.Curve{silent(), example(1000)}, slices.Concat(of(1, 500, 70), of(0, 500, 0)), 180, 4},
	} {
		last := len(x.l) - 1
		f, e := impute.Fill(x.c, x.l, 180)
		want := x.l[last]
		want.Height = x.height
		if e != api.OK || len(f.Trees) != last+1 || len(f.Source) != last+1 || f.Trees[last] != want || f.Source[last] != x.source {
			t.Error(i, f, e)
		}
	}
}

func TestP20_1_Standard(t *testing.T) {
	for _, standard := range []int{1, 2, 500, 999, 1000} {
		want := api.Filled{Trees: trees(500, standard, 7, standard), Source: []int{4, 4}}
		if f, e := impute.Fill(one(silent()), trees(500, 0, 7, 0), standard); e != api.OK || !same(f, want) {
			t.Error(standard, f, e)
		}
	}
}

// TestP20_1_Errors goes through the errors of Fill in their order; Verify has the same ones first.
func TestP20_1_Errors(t *testing.T) {
	six := slices.Repeat(one(example(1000)), 6)
	seven := slices.Repeat(one(example(1000)), 7)
	broken := func(change func(c *api.Curve)) api.Curve {
		c := example(1000)
		change(&c)
		return c
	}
	formless := broken(func(c *api.Curve) { c.Form = 0 })
	empty := broken(func(c *api.Curve) { c.Taper = nil })
	unordered := broken(func(c *api.Curve) { c.Height[0].To = 0 })
	for i, x := range []struct {
		c        []api.Curve
		l        []api.Tree
		standard int
		e        int
	}{
		{six, nil, 180, api.OK},
		{nil, nil, 180, api.OK},
		{six, of(5, 1, 0, 3000, 1000), 180, api.OK},
		{six, slices.Repeat(of(5, 1, 0), 200), 180, api.OK},
		// The trees' number and diameters, before everything else.
		{six, slices.Repeat(of(5, 1, 0), 201), 180, api.ErrLimit},
		{nil, slices.Repeat(of(6, 0, -1), 201), 0, api.ErrLimit},
		{six, trees(0, 5), 180, api.ErrRange},
		{six, trees(3001, 5), 180, api.ErrRange},
		{seven, trees(-1, 5), 180, api.ErrRange},
		{six, slices.Concat(of(6, 5, 5), of(0, 0, 5)), 180, api.ErrRange},
		{nil, slices.Concat(of(6, 5, 5), of(6, lowest, 5)), 180, api.ErrRange},
		{six, slices.Concat(of(-1, 5, 5), of(0, highest, 5)), 0, api.ErrRange},
		// The number of curves.
		{seven, nil, 180, api.ErrLimit},
		{seven, trees(5, 5), 180, api.ErrLimit},
		{seven, of(7, 5, 5), 180, api.ErrLimit},
		{seven, trees(5, -1), 0, api.ErrLimit},
		{make([]api.Curve, 7), trees(5, 5), 180, api.ErrLimit},
		// The first tree that has an error, its species before its height.
		{six, of(6, 5, 5), 180, api.ErrNone},
		{six, of(-1, 5, 5), 180, api.ErrNone},
		{six, of(lowest, 5, 5), 180, api.ErrNone},
		{six, of(highest, 5, 5), 180, api.ErrNone},
		{nil, of(0, 5, 0), 180, api.ErrNone},
		{six, of(6, 5, -1), 0, api.ErrNone},
		{six, slices.Concat(of(5, 5, 5), of(6, 5, 5), of(0, 5, -1)), 0, api.ErrNone},
		{six, of(5, 5, -1), 180, api.ErrRange},
		{six, of(5, 5, 1001), 180, api.ErrRange},
		{six, of(5, 5, lowest), 180, api.ErrRange},
		{six, of(5, 5, highest), 180, api.ErrRange},
		{six, slices.Concat(of(5, 5, 5, 5, -1), of(6, 5, 5)), 180, api.ErrRange},
		{one(api.Curve{}), slices.Concat(of(0, 5, 1001), of(1, 5, 5)), 180, api.ErrRange},
		{one(api.Curve{}), slices.Concat(of(1, 5, 1001), of(0, 5, 5)), 180, api.ErrNone},
		// The standard, before the curves.
		{six, trees(5, 5), 0, api.ErrRange},
		{six, trees(5, 5), -1, api.ErrRange},
		{six, trees(5, 5), 1001, api.ErrRange},
		{six, nil, lowest, api.ErrRange},
		{nil, nil, highest, api.ErrRange},
		{one(api.Curve{}), nil, 0, api.ErrRange},
		{one(empty), trees(5, 5), 1001, api.ErrRange},
		// The first curve that has an error, also of a species without trees.
		{one(empty), nil, 180, api.ErrNone},
		{one(formless), trees(5, 5), 180, api.ErrRange},
		{one(unordered), trees(5, 0), 180, api.ErrOrder},
		{[]api.Curve{example(1000), empty}, trees(5, 0), 180, api.ErrNone},
		{[]api.Curve{example(1000), unordered, empty}, trees(5, 0), 180, api.ErrOrder},
		{[]api.Curve{example(1000), empty, unordered}, of(2, 5, 0), 180, api.ErrNone},
		{append(six[:5:5], formless), trees(5, 0), 180, api.ErrRange},
	} {
		f, e := impute.Fill(x.c, x.l, x.standard)
		if e != x.e || e != api.OK && !same(f, api.Filled{}) {
			t.Error(i, f, e)
		}
		if e := impute.Verify(x.c, x.l, x.standard, f); e != x.e {
			t.Error(i, "Verify returns", e)
		}
	}
}

// middle is the mean of heights, where halves are rounded up.
func middle(heights []int) int {
	sum := 0
	for _, h := range heights {
		sum += h
	}
	mean := sum / len(heights)
	if 2*(sum-mean*len(heights)) >= len(heights) {
		mean++
	}
	return mean
}

// TestP20_1_Definition compares with the chapter's rules, one after the other.
func TestP20_1_Definition(t *testing.T) {
	var found [5]int
	lists(2, func(c []api.Curve, l []api.Tree, standard int) {
		want := api.Filled{Trees: slices.Clone(l), Source: make([]int, len(l))}
		missing := 0
		for i, x := range l {
			var near, all []int
			for _, y := range l {
				if y.Height == 0 || x.Species != y.Species {
					continue
				}
				all = append(all, y.Height)
				if x.Diameter <= y.Diameter+50 && y.Diameter <= x.Diameter+50 {
					near = append(near, y.Height)
				}
			}
			if x.Height != 0 {
				found[0]++
				continue
			}
			missing++
			h, e := volume.Height(c[x.Species], x.Diameter)
			switch {
			case len(near) > 0:
				want.Trees[i].Height, want.Source[i] = middle(near), 1
			case e == api.OK:
				want.Trees[i].Height, want.Source[i] = h, 2
			case len(all) > 0:
				want.Trees[i].Height, want.Source[i] = middle(all), 3
			default:
				want.Trees[i].Height, want.Source[i] = standard, 4
			}
			found[want.Source[i]]++
		}
		if f, e := impute.Fill(c, l, standard); e != api.OK || !same(f, want) {
			t.Fatal(c, l, standard, f, e, want)
		}
		if count, e := impute.Missing(l); e != api.OK || count != missing {
			t.Fatal(l, count, e, missing)
		}
	})
	for source, count := range found {
		if count < 500 {
			t.Error("too few trees with the source", source, found)
		}
	}
}

func TestP20_1_Verify(t *testing.T) {
	c, l := one(example(1000)), trees(200, 150, 240, 161, 230, 0, 400, 0, 1500, 0)
	filled := must(impute.Fill(c, l, 180))
	with := func(change func(f *api.Filled)) api.Filled {
		f := api.Filled{Trees: slices.Clone(filled.Trees), Source: slices.Clone(filled.Source)}
		change(&f)
		return f
	}
	if e := impute.Verify(c, l, 180, with(func(*api.Filled) {})); e != api.OK {
		t.Error(e)
	}
	if e := impute.Verify(c, nil, 180, api.Filled{}); e != api.OK {
		t.Error(e)
	}
	if e := impute.Verify(c, nil, 180, api.Filled{Trees: []api.Tree{}, Source: []int{}}); e != api.OK {
		t.Error(e)
	}
	wrong := []api.Filled{
		{},
		{Trees: filled.Trees},
		{Source: filled.Source},
		{Trees: l, Source: filled.Source},
		{Trees: filled.Trees[:4], Source: filled.Source},
		{Trees: filled.Trees, Source: filled.Source[:4]},
		{Trees: filled.Trees[:4], Source: filled.Source[:4]},
		{Trees: append(filled.Trees[:5:5], filled.Trees[4]), Source: filled.Source},
		{Trees: filled.Trees, Source: append(filled.Source[:5:5], 0)},
	}
	for i := range l {
		for _, by := range []int{-1, 1, highest} {
			wrong = append(wrong,
				with(func(f *api.Filled) { f.Source[i] += by }),
				with(func(f *api.Filled) { f.Trees[i].Height += by }),
				with(func(f *api.Filled) { f.Trees[i].Diameter += by }),
				with(func(f *api.Filled) { f.Trees[i].Species += by }),
				with(func(f *api.Filled) { f.Trees[i].Quality += by }))
		}
	}
	for i, f := range wrong {
		if e := impute.Verify(c, l, 180, f); e != api.ErrProof {
			t.Error(i, f, e)
		}
	}
	// Errors of Fill before those of the result.
	if e := impute.Verify(c, l, 0, api.Filled{}); e != api.ErrRange {
		t.Error(e)
	}
	if e := impute.Verify(nil, l, 180, filled); e != api.ErrNone {
		t.Error(e)
	}
	// The rules are those of the arguments.
	if e := impute.Verify(one(example(800)), l, 180, filled); e != api.OK {
		t.Error(e)
	}
	if e := impute.Verify(one(example(300)), l, 180, filled); e != api.ErrProof {
		t.Error(e)
	}
}

func TestP20_2_Filled(t *testing.T) {
	lists(3, func(c []api.Curve, l []api.Tree, standard int) {
		f := must(impute.Fill(c, l, standard))
		if len(f.Trees) != len(l) || len(f.Source) != len(l) {
			t.Fatal(l, f)
		}
		for i, x := range f.Trees {
			if measured := l[i].Height != 0; measured && x != l[i] || measured != (f.Source[i] == 0) {
				t.Fatal(l, i, f)
			}
			if x.Height < 1 || x.Height > api.MaxHeight || x.Species != l[i].Species || x.Diameter != l[i].Diameter || x.Quality != l[i].Quality {
				t.Fatal(l, i, f)
			}
		}
		if count, e := impute.Missing(f.Trees); count != 0 || e != api.OK {
			t.Fatal(l, f, count, e)
		}
		if again, e := impute.Fill(c, f.Trees, standard); e != api.OK || !same(again, api.Filled{Trees: f.Trees, Source: make([]int, len(l))}) {
			t.Fatal(l, f, again, e)
		}
		if e := impute.Verify(c, l, standard, f); e != api.OK {
			t.Fatal(l, f, e)
		}
	})
}

// TestP20_2_Neighbours finds heights between the least and the greatest one of the neighbours, whenever there are any.
func TestP20_2_Neighbours(t *testing.T) {
	count := 0
	lists(4, func(c []api.Curve, l []api.Tree, standard int) {
		f := must(impute.Fill(c, l, standard))
		for i, x := range f.Trees {
			var heights []int
			for _, y := range l {
				if y.Height != 0 && y.Species == x.Species && y.Diameter-x.Diameter <= 50 && x.Diameter-y.Diameter <= 50 {
					heights = append(heights, y.Height)
				}
			}
			if l[i].Height != 0 || len(heights) == 0 {
				continue
			}
			count++
			if x.Height < slices.Min(heights) || x.Height > slices.Max(heights) || f.Source[i] != 1 {
				t.Fatal(l, i, x, heights)
			}
		}
	})
	if count < 1000 {
		t.Error("only", count, "trees have neighbours")
	}
}
