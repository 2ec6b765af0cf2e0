package treelist_test

import (
	"cmp"
	"math/big"
	"math/rand/v2"
	"reflect"
	"slices"
	"testing"

	"coupe/api"
	"coupe/fraction"
	"coupe/species"
	"coupe/treelist"
)

const (
	lowest  = -1 << 63
	highest = 1<<63 - 1
)

func frac(num, den int) api.Frac {
	return api.Frac{Num: num, Den: den}
}

// kind returns a species whose trees have diameters up to a greatest one.
func kind(code string, limit int) api.Species {
	return api.Species{Code: code, Density: 500, Carbon: 500000, Limit: limit}
}

// two returns a table of spruce and beech.
func two() []api.Species {
	return []api.Species{kind("sp", 1500), kind("be", 1200)}
}

// full returns a table of as many species as there may be, as thick as they may be.
func full() []api.Species {
	return []api.Species{kind("a", 3000), kind("b", 3000), kind("c", 3000), kind("d", 3000), kind("e", 3000), kind("f", 3000)}
}

// thick returns trees of the first species with diameters.
func thick(diameters ...int) []api.Tree {
	var l []api.Tree
	for _, d := range diameters {
		l = append(l, api.Tree{Diameter: d})
	}
	return l
}

// example returns the trees of the chapter, of the species 0, 1, 0, 0.
func example() []api.Tree {
	l := thick(100, 300, 200, 300)
	l[1].Species = 1
	return l
}

// many returns as many equal trees as one wants.
func many(count, diameter int) []api.Tree {
	return slices.Repeat(thick(diameter), count)
}

// random returns a list without an error for the full table, in which diameters are often equal.
func random(r *rand.Rand) []api.Tree {
	l := make([]api.Tree, r.IntN([]int{2, 7, 30, api.MaxTrees + 1}[r.IntN(4)]))
	greatest := []int{3, 500, api.MaxDiameter}[r.IntN(3)]
	for i := range l {
		l[i] = api.Tree{Species: r.IntN(api.MaxSpecies), Diameter: 1 + r.IntN(greatest), Height: r.IntN(api.MaxHeight + 1), Quality: r.IntN(3)}
	}
	return l
}

// lists calls a function for many lists without an error for the full table.
func lists(seed uint64, f func(l []api.Tree)) {
	f(nil)
	f(example())
	f(many(api.MaxTrees, api.MaxDiameter))
	f(many(api.MaxTrees, 1))
	r := rand.New(rand.NewPCG(16, seed))
	for range 2000 {
		f(random(r))
	}
}

// checkNothingBesideErrors finds that functions that return an error return nothing else.
func checkNothingBesideErrors(t *testing.T, results []any, errors []int) {
	t.Helper()
	for i, e := range errors {
		v := reflect.ValueOf(results[i])
		if e != api.OK && !v.IsZero() && (v.Kind() != reflect.Slice || v.Len() > 0) {
			t.Error("function", i, "returns", results[i], "beside the error", e)
		}
	}
}

// answers returns the results of all functions but Check, and their errors.
func answers(table []api.Species, l []api.Tree, n int) (results []any, errors []int) {
	sum, e1 := treelist.Squares(l)
	mean, e2 := treelist.Mean(l)
	order, e3 := treelist.Order(l)
	top, e4 := treelist.Top(l, n)
	living, e5 := treelist.Living(l)
	shares, e6 := treelist.Shares(table, l)
	return []any{sum, mean, order, top, living, shares}, []int{e1, e2, e3, e4, e5, e6}
}

// TestP1_AnyArguments calls all functions with arguments of any form: none panics, and beside an error there is nothing else.
func TestP1_AnyArguments(t *testing.T) {
	numbers := []int{lowest, lowest + 1, -2, -1, 0, 1, 2, 3, 6, 200, 1000, 1001, 1200, 1201, 3000, 3001, highest - 1, highest}
	r := rand.New(rand.NewPCG(16, 1))
	pick := func() int { return numbers[r.IntN(len(numbers))] }
	tables := [][]api.Species{nil, two(), full(), append(full(), kind("g", 1)), {{}}, {kind("sp", lowest)}, {kind("sp", 9), kind("sp", 9)}}
	for range 50000 {
		l := make([]api.Tree, r.IntN(4))
		for i := range l {
			l[i] = api.Tree{Species: pick(), Diameter: pick(), Height: pick(), Quality: pick()}
		}
		table := tables[r.IntN(len(tables))]
		results, errors := answers(table, l, pick())
		checkNothingBesideErrors(t, results, errors)
		if i, e := treelist.Check(table, l); i < -1 || i >= len(l) || (e == api.OK && i != -1) {
			t.Error(table, l, i, e)
		}
	}
	huge := make([]api.Tree, 1<<16)
	results, errors := answers(two(), huge, highest)
	checkNothingBesideErrors(t, results, errors)
}

func TestP16_1_ArgumentsAreKept(t *testing.T) {
	table := append(make([]api.Species, 0, 4), two()...)
	l := append(make([]api.Tree, 0, 6), example()...)
	l[2].Quality = 2
	spareTable, spare := table[:4], l[:6]
	spareTable[3], spare[4], spare[5] = kind("oak", 7), api.Tree{Diameter: 5000}, api.Tree{Diameter: 250}
	keptTable, kept := slices.Clone(spareTable), slices.Clone(spare)
	treelist.Check(table, l)
	first, errors := answers(table, l, 2)
	if slices.ContainsFunc(errors, func(e int) bool { return e != api.OK }) {
		t.Error(errors)
	}
	second, _ := answers(table, l, 2)
	for _, result := range first {
		switch x := result.(type) {
		case []int:
			for i := range x[:cap(x)] {
				x[:cap(x)][i] = -7
			}
		case []api.Tree:
			for i := range x[:cap(x)] {
				x[:cap(x)][i] = api.Tree{Species: -7}
			}
		}
	}
	if !slices.Equal(spareTable, keptTable) || !slices.Equal(spare, kept) {
		t.Error("arguments were changed, or results share memory with them")
	}
	if third, _ := answers(table, l, 2); !reflect.DeepEqual(second, third) {
		t.Error("results share memory with each other", second, third)
	}
}

func TestP16_1_Check(t *testing.T) {
	tree := func(species, diameter, height, quality int) []api.Tree {
		return []api.Tree{{Species: species, Diameter: diameter, Height: height, Quality: quality}}
	}
	behind := func(l []api.Tree) []api.Tree { return slices.Concat(example(), l) }
	for i, x := range []struct {
		table []api.Species
		l     []api.Tree
		at, e int
	}{
		{two(), nil, -1, api.OK},
		{nil, nil, -1, api.OK},
		{two(), example(), -1, api.OK},
		{two(), tree(0, 1, 0, 0), -1, api.OK},
		{two(), tree(0, 1500, 1000, 2), -1, api.OK},
		{two(), tree(1, 1200, 1, 1), -1, api.OK},
		{two(), many(200, 1500), -1, api.OK},
		{full(), tree(5, 3000, 1000, 2), -1, api.OK},
		{nil, tree(0, 1, 0, 0), 0, api.ErrNone},
		{two(), tree(2, 1, 0, 0), 0, api.ErrNone},
		{two(), tree(-1, 1, 0, 0), 0, api.ErrNone},
		{two(), tree(lowest, 1, 0, 0), 0, api.ErrNone},
		{two(), tree(highest, 1, 0, 0), 0, api.ErrNone},
		{full(), tree(6, 1, 0, 0), 0, api.ErrNone},
		{two(), tree(0, 0, 0, 0), 0, api.ErrRange},
		{two(), tree(0, -100, 0, 0), 0, api.ErrRange},
		{two(), tree(0, lowest, 0, 0), 0, api.ErrRange},
		{two(), tree(0, highest, 0, 0), 0, api.ErrRange},
		{two(), tree(0, 1501, 0, 0), 0, api.ErrRange},
		{two(), tree(1, 1201, 0, 0), 0, api.ErrRange},
		{full(), tree(5, 3001, 0, 0), 0, api.ErrRange},
		{two(), tree(0, 1, -1, 0), 0, api.ErrRange},
		{two(), tree(0, 1, 1001, 0), 0, api.ErrRange},
		{two(), tree(0, 1, lowest, 0), 0, api.ErrRange},
		{two(), tree(0, 1, highest, 0), 0, api.ErrRange},
		{two(), tree(0, 1, 0, -1), 0, api.ErrForm},
		{two(), tree(0, 1, 0, 3), 0, api.ErrForm},
		{two(), tree(0, 1, 0, lowest), 0, api.ErrForm},
		{two(), tree(0, 1, 0, highest), 0, api.ErrForm},
		// Of several errors of a tree the first one.
		{two(), tree(2, 0, 0, 0), 0, api.ErrNone},
		{two(), tree(2, 1, -1, 0), 0, api.ErrNone},
		{two(), tree(2, 1, 0, 3), 0, api.ErrNone},
		{two(), tree(0, 0, 0, 3), 0, api.ErrRange},
		{two(), tree(0, 1, 1001, 3), 0, api.ErrRange},
		// Of several trees the first one.
		{two(), behind(tree(2, 1, 0, 0)), 4, api.ErrNone},
		{two(), behind(tree(1, 1201, 0, 0)), 4, api.ErrRange},
		{two(), behind(tree(1, 1200, 0, 3)), 4, api.ErrForm},
		{two(), behind(slices.Concat(tree(1, 1, 0, 3), tree(2, 0, -1, 3))), 4, api.ErrForm},
		{two(), slices.Concat(tree(1, 1, -1, 0), tree(2, 0, -1, 3)), 0, api.ErrRange},
		{two(), slices.Concat(many(199, 7), tree(0, 7, 7, 7)), 199, api.ErrForm},
		// A list that is too long, before its trees.
		{two(), many(201, 100), -1, api.ErrLimit},
		{two(), many(201, 0), -1, api.ErrLimit},
		{nil, many(1000, -1), -1, api.ErrLimit},
		// The table before the list.
		{append(full(), kind("g", 1)), nil, -1, api.ErrLimit},
		{append(full(), kind("g", 1)), example(), -1, api.ErrLimit},
		{[]api.Species{kind("", 9)}, example(), -1, api.ErrForm},
		{[]api.Species{kind("", 9)}, many(201, 100), -1, api.ErrForm},
		{[]api.Species{kind("sp", 0)}, tree(0, 1, 0, 3), -1, api.ErrRange},
		{[]api.Species{kind("sp", 0)}, many(201, 0), -1, api.ErrRange},
		{[]api.Species{kind("sp", 9), kind("sp", 9)}, tree(3, 1, 0, 0), -1, api.ErrExist},
		{[]api.Species{kind("sp", 9), kind("sp", 9)}, many(201, 0), -1, api.ErrExist},
	} {
		if at, e := treelist.Check(x.table, x.l); at != x.at || e != x.e {
			t.Error(i, at, e)
		}
	}
}

// TestP16_1_CheckDefinition compares with the errors of all trees by themselves.
func TestP16_1_CheckDefinition(t *testing.T) {
	r := rand.New(rand.NewPCG(16, 2))
	found := map[int]int{}
	for range 20000 {
		l := random(r)
		table := []api.Species{kind("a", 3000), kind("b", 2999), kind("c", 2900), kind("d", 3000), kind("e", 3000), kind("f", 3000)}[:5+r.IntN(2)]
		if len(l) > 0 && r.IntN(2) == 0 {
			x := &l[r.IntN(len(l))]
			x.Species, x.Diameter = x.Species+r.IntN(3)-1, x.Diameter+r.IntN(3)-1
			x.Height, x.Quality = x.Height+r.IntN(3)-1, x.Quality+r.IntN(3)-1
		}
		want, f := -1, api.OK
		for i, x := range slices.Backward(l) {
			switch {
			case x.Species < 0 || x.Species >= len(table):
				want, f = i, api.ErrNone
			case !species.Allowed(table, x.Species, x.Diameter) || x.Height < 0 || x.Height > 1000:
				want, f = i, api.ErrRange
			case !slices.Contains([]int{0, 1, 2}, x.Quality):
				want, f = i, api.ErrForm
			}
		}
		found[f]++
		if at, e := treelist.Check(table, l); at != want || e != f {
			t.Fatal(table, l, at, e, want, f)
		}
	}
	for _, e := range []int{api.OK, api.ErrNone, api.ErrRange, api.ErrForm} {
		if found[e] < 100 {
			t.Error("too few lists with the error", e, found)
		}
	}
}

func TestP16_1_Squares(t *testing.T) {
	for i, x := range []struct {
		l      []api.Tree
		sum, e int
	}{
		{example(), 230000, api.OK},
		{nil, 0, api.OK},
		{thick(1), 1, api.OK},
		{thick(3000), 9000000, api.OK},
		{many(200, 3000), 1800000000, api.OK},
		{[]api.Tree{{Species: -9, Diameter: 3, Height: -9, Quality: -9}, {Species: 99, Diameter: 4, Height: highest, Quality: 2}}, 25, api.OK}, // only diameters matter
		{many(201, 1), 0, api.ErrLimit},
		{many(201, 0), 0, api.ErrLimit},
		{thick(0), 0, api.ErrRange},
		{thick(-1), 0, api.ErrRange},
		{thick(3001), 0, api.ErrRange},
		{thick(lowest), 0, api.ErrRange},
		{thick(highest), 0, api.ErrRange},
		{thick(7, 8, 9, 0), 0, api.ErrRange},
		{thick(3001, 8, 9), 0, api.ErrRange},
	} {
		if sum, e := treelist.Squares(x.l); sum != x.sum || e != x.e {
			t.Error(i, sum, e)
		}
	}
}

// TestP16_1_First finds that the functions behind Squares return its errors first, whatever the other arguments are.
func TestP16_1_First(t *testing.T) {
	tables := [][]api.Species{two(), nil, append(full(), kind("g", 1)), {{}}, {kind("sp", 0)}}
	for _, table := range tables {
		for i, x := range []struct {
			l []api.Tree
			e int
		}{
			{many(201, 1), api.ErrLimit},
			{many(201, 0), api.ErrLimit},
			{thick(0), api.ErrRange},
			{thick(9, 3001), api.ErrRange},
			{[]api.Tree{{Diameter: -1, Species: 9, Quality: 9}}, api.ErrRange},
			{[]api.Tree{{Species: 9, Diameter: 1, Quality: 9}, {}}, api.ErrRange},
		} {
			for _, n := range []int{1, 0, -1, 300} {
				results, errors := answers(table, x.l, n)
				checkNothingBesideErrors(t, results, errors)
				if slices.ContainsFunc(errors, func(e int) bool { return e != x.e }) {
					t.Error(i, n, errors)
				}
			}
		}
	}
}

func TestP16_1_Mean(t *testing.T) {
	for i, x := range []struct {
		l       []api.Tree
		mean, e int
	}{
		{example(), 239, api.OK},
		{thick(1), 1, api.OK},
		{thick(1, 2), 1, api.OK},    // 5/2
		{thick(1, 2, 2), 1, api.OK}, // 9/3
		{thick(2, 2), 2, api.OK},
		{thick(1, 7), 5, api.OK},    // exactly
		{thick(1, 7, 5), 5, api.OK}, // exactly
		{thick(1, 7, 4), 4, api.OK}, // 66/3
		{thick(1, 7, 6), 5, api.OK}, // 86/3
		{thick(17, 7), 13, api.OK},  // exactly 169
		{thick(17, 6), 12, api.OK},  // 325/2
		{thick(3000), 3000, api.OK}, // as thick as it may be
		{thick(2999), 2999, api.OK}, //
		{thick(3000, 1), 2121, api.OK},
		{thick(3000, 2999), 2999, api.OK},
		{many(200, 3000), 3000, api.OK},
		{many(200, 1), 1, api.OK},
		{append(many(199, 3000), thick(2999)...), 2999, api.OK},
		{[]api.Tree{{Species: 99, Diameter: 5, Quality: 2}}, 5, api.OK},
		{nil, 0, api.ErrNone},
		{[]api.Tree{}, 0, api.ErrNone},
	} {
		if mean, e := treelist.Mean(x.l); mean != x.mean || e != x.e {
			t.Error(i, mean, e)
		}
	}
}

func TestP16_1_MeanDefinition(t *testing.T) {
	lists(3, func(l []api.Tree) {
		sum, n := big.NewInt(0), big.NewInt(int64(len(l)))
		for _, x := range l {
			sum.Add(sum, big.NewInt(int64(x.Diameter*x.Diameter)))
		}
		mean, e := treelist.Mean(l)
		if len(l) == 0 {
			if mean != 0 || e != api.ErrNone {
				t.Error(mean, e)
			}
			return
		}
		want := new(big.Int).Sqrt(new(big.Int).Div(sum, n))
		if e != api.OK || int64(mean) != want.Int64() {
			t.Error(l, mean, e, want)
		}
	})
}

func TestP16_1_Order(t *testing.T) {
	for i, x := range []struct {
		l     []api.Tree
		order []int
	}{
		{example(), []int{1, 3, 2, 0}},
		{nil, nil},
		{thick(5), []int{0}},
		{thick(1, 2, 3), []int{2, 1, 0}},
		{thick(3, 2, 1), []int{0, 1, 2}},
		{thick(7, 7, 7, 7), []int{0, 1, 2, 3}},
		{thick(1, 3000, 1, 3000, 2), []int{1, 3, 4, 0, 2}},
		{[]api.Tree{{Diameter: 4, Species: 1, Height: 900, Quality: 0}, {Diameter: 5, Species: -7, Height: -1, Quality: 2}, {Diameter: 4, Species: 0, Height: 7, Quality: 1}}, []int{1, 0, 2}},
	} {
		if l, e := treelist.Order(x.l); !slices.Equal(l, x.order) || e != api.OK {
			t.Error(i, l, e)
		}
	}
}

// TestP16_1_OrderDefinition puts each tree behind the thicker ones, and behind the equal ones that stand before it.
func TestP16_1_OrderDefinition(t *testing.T) {
	lists(4, func(l []api.Tree) {
		want := make([]int, len(l))
		for i, x := range l {
			place := 0
			for j, y := range l {
				if y.Diameter > x.Diameter || y.Diameter == x.Diameter && j < i {
					place++
				}
			}
			want[place] = i
		}
		if order, e := treelist.Order(l); !slices.Equal(order, want) || e != api.OK {
			t.Fatal(l, order, e, want)
		}
	})
}

func TestP16_1_Top(t *testing.T) {
	for i, x := range []struct {
		l    []api.Tree
		n    int
		mean api.Frac
		e    int
	}{
		{example(), 1, frac(300, 1), api.OK},
		{example(), 2, frac(300, 1), api.OK},
		{example(), 3, frac(800, 3), api.OK},
		{example(), 4, frac(225, 1), api.OK},
		{thick(1, 2), 2, frac(3, 2), api.OK},
		{thick(1, 2, 3, 4), 4, frac(5, 2), api.OK},
		{many(200, 3000), 200, frac(3000, 1), api.OK},
		{append(many(199, 3000), thick(1)...), 200, frac(597001, 200), api.OK},
		{example(), 0, api.Frac{}, api.ErrRange},
		{example(), -1, api.Frac{}, api.ErrRange},
		{example(), 5, api.Frac{}, api.ErrRange},
		{example(), lowest, api.Frac{}, api.ErrRange},
		{example(), highest, api.Frac{}, api.ErrRange},
		{nil, 0, api.Frac{}, api.ErrRange},
		{nil, 1, api.Frac{}, api.ErrRange},
	} {
		if mean, e := treelist.Top(x.l, x.n); mean != x.mean || e != x.e {
			t.Error(i, mean, e)
		}
	}
}

// TestP16_1_TopDefinition compares with the greatest sum of so many diameters.
func TestP16_1_TopDefinition(t *testing.T) {
	lists(5, func(l []api.Tree) {
		var diameters []int
		for _, x := range l {
			diameters = append(diameters, x.Diameter)
		}
		slices.Sort(diameters)
		sum := 0
		for n := 1; n <= len(l); n++ {
			sum += diameters[len(l)-n]
			if want, _ := fraction.New(sum, n); n < 4 || n > len(l)-3 {
				if mean, e := treelist.Top(l, n); mean != want || e != api.OK {
					t.Fatal(l, n, mean, e, want)
				}
			}
		}
	})
}

func TestP16_1_Living(t *testing.T) {
	tree := func(number, quality int) api.Tree {
		return api.Tree{Species: number, Diameter: 1 + number, Height: number, Quality: quality}
	}
	for i, x := range []struct{ l, living []api.Tree }{
		{nil, nil},
		{example(), example()},
		{[]api.Tree{tree(0, 2)}, nil},
		{[]api.Tree{tree(0, 0), tree(1, 2), tree(2, 1), tree(3, 2), tree(4, 2), tree(5, 0)}, []api.Tree{tree(0, 0), tree(2, 1), tree(5, 0)}},
		{[]api.Tree{tree(0, 2), tree(1, 1), tree(2, 2)}, []api.Tree{tree(1, 1)}},
		{[]api.Tree{tree(9, 3), tree(7, -1), tree(8, 2), tree(3, highest), tree(2, 1)}, []api.Tree{tree(9, 3), tree(7, -1), tree(3, highest), tree(2, 1)}},
		{many(200, 3000), many(200, 3000)},
	} {
		if l, e := treelist.Living(x.l); !slices.Equal(l, x.living) || e != api.OK {
			t.Error(i, l, e)
		}
	}
}

// ofKinds returns a tree of each species with a diameter, none where it is 0.
func ofKinds(diameters ...int) []api.Tree {
	var l []api.Tree
	for i, d := range diameters {
		if d > 0 {
			l = append(l, api.Tree{Species: i, Diameter: d})
		}
	}
	return l
}

func TestP16_1_Shares(t *testing.T) {
	three := full()[:3]
	for i, x := range []struct {
		table  []api.Species
		l      []api.Tree
		shares []int
		e      int
	}{
		{two(), example(), []int{608696, 391304}, api.OK},
		{two(), thick(7), []int{1000000, 0}, api.OK},
		{two(), ofKinds(0, 7), []int{0, 1000000}, api.OK},
		{two(), ofKinds(7, 7), []int{500000, 500000}, api.OK},
		{two()[:1], thick(1, 2, 3), []int{1000000}, api.OK},
		{three, ofKinds(7, 7, 7), []int{333334, 333333, 333333}, api.OK},
		{three, ofKinds(1, 2, 1), []int{166667, 666667, 166666}, api.OK}, // equal remainders, 2 parts missing
		{three, ofKinds(1, 0, 2), []int{200000, 0, 800000}, api.OK},
		{full(), ofKinds(1, 1, 1, 1, 1, 1), []int{166667, 166667, 166667, 166667, 166666, 166666}, api.OK},
		{full(), ofKinds(0, 1, 0, 1, 1, 0), []int{0, 333334, 0, 333333, 333333, 0}, api.OK},
		{full(), ofKinds(1, 3000, 1, 1, 1, 1), []int{0, 1000000, 0, 0, 0, 0}, api.OK},
		{full(), ofKinds(3, 3000, 2, 1, 2, 3), []int{1, 999997, 1, 0, 0, 1}, api.OK},
		{full(), many(200, 3000), []int{1000000, 0, 0, 0, 0, 0}, api.OK},
		{two(), []api.Tree{{Species: 0, Diameter: 9, Height: 1000, Quality: 2}, {Species: 1, Diameter: 9, Quality: 1}}, []int{500000, 500000}, api.OK}, // dead trees count
		{two(), nil, nil, api.ErrNone},
		{nil, nil, nil, api.ErrNone},
		{nil, thick(1), nil, api.ErrNone},
		{two(), ofKinds(1, 1, 1), nil, api.ErrNone},
		{two(), thick(1501), nil, api.ErrRange},
		{two(), ofKinds(1500, 1201), nil, api.ErrRange},
		{two(), []api.Tree{{Diameter: 1, Height: -1}}, nil, api.ErrRange},
		{two(), []api.Tree{{Diameter: 1, Quality: 3}}, nil, api.ErrForm},
		{two(), []api.Tree{{Diameter: 1}, {Diameter: 1, Quality: -1}}, nil, api.ErrForm},
		{[]api.Species{kind("A", 9)}, thick(1), nil, api.ErrForm},
		{[]api.Species{kind("A", 9)}, nil, nil, api.ErrForm},
		{[]api.Species{kind("a", 0)}, nil, nil, api.ErrRange},
		{[]api.Species{kind("a", 9), kind("a", 9)}, nil, nil, api.ErrExist},
		{append(full(), kind("g", 9)), thick(1), nil, api.ErrLimit},
		{[]api.Species{kind("A", 9)}, many(201, 1), nil, api.ErrLimit},
		{[]api.Species{kind("A", 9)}, thick(3001), nil, api.ErrRange},
		{two(), []api.Tree{{Species: 7, Diameter: 1}, {Diameter: 0}}, nil, api.ErrRange}, // Squares is first
	} {
		if l, e := treelist.Shares(x.table, x.l); !slices.Equal(l, x.shares) || e != x.e {
			t.Error(i, l, e)
		}
	}
}

// TestP16_1_SharesDefinition gives the missing parts one by one to the species with the largest remainder that has got none.
func TestP16_1_SharesDefinition(t *testing.T) {
	given := 0
	lists(6, func(l []api.Tree) {
		if len(l) == 0 {
			return
		}
		total := new(big.Rat)
		exact := make([]*big.Rat, api.MaxSpecies)
		for i := range exact {
			exact[i] = new(big.Rat)
		}
		for _, x := range l {
			area := big.NewRat(int64(x.Diameter)*int64(x.Diameter)*api.Million, 1)
			exact[x.Species].Add(exact[x.Species], area)
			total.Add(total, area)
		}
		total.Quo(total, big.NewRat(api.Million, 1))
		want, missing := make([]int, api.MaxSpecies), api.Million
		for i, share := range exact {
			share.Quo(share, total)
			want[i] = int(new(big.Int).Div(share.Num(), share.Denom()).Int64())
			share.Sub(share, big.NewRat(int64(want[i]), 1))
			missing -= want[i]
		}
		for ; missing > 0; missing-- {
			largest := slices.MaxFunc(exact, (*big.Rat).Cmp)
			i := slices.IndexFunc(exact, func(x *big.Rat) bool { return x.Cmp(largest) == 0 })
			want[i]++
			exact[i] = big.NewRat(-1, 1)
			given++
		}
		if shares, e := treelist.Shares(full(), l); !slices.Equal(shares, want) || e != api.OK {
			t.Fatal(l, shares, e, want)
		}
	})
	if given < 1000 {
		t.Error("only", given, "parts were missing")
	}
}

// TestP16_2_Means finds that the mean lies between the diameters, and how it lies to the arithmetic mean.
func TestP16_2_Means(t *testing.T) {
	lists(7, func(l []api.Tree) {
		if len(l) == 0 {
			return
		}
		order, _ := treelist.Order(l)
		mean, e := treelist.Mean(l)
		if e != api.OK || mean > l[order[0]].Diameter || mean < l[order[len(l)-1]].Diameter {
			t.Error(l, mean, e)
		}
		sum := 0
		for _, x := range l {
			sum += x.Diameter
		}
		arithmetic, _ := fraction.New(sum, len(l))
		if top, e := treelist.Top(l, len(l)); top != arithmetic || e != api.OK || fraction.Compare(top, frac(mean+1, 1)) > 0 {
			t.Error(l, top, e, arithmetic, mean)
		}
		before := frac(api.MaxDiameter, 1)
		for n := 1; n <= min(len(l), 20); n++ {
			top, e := treelist.Top(l, n)
			if e != api.OK || fraction.Compare(top, before) > 0 {
				t.Error(l, n, top, e, before)
			}
			before = top
		}
	})
}

// TestP16_2_Sums finds that shares add up to a million, and sums of squares to those of joined lists.
func TestP16_2_Sums(t *testing.T) {
	r := rand.New(rand.NewPCG(16, 8))
	lists(8, func(l []api.Tree) {
		if shares, e := treelist.Shares(full(), l); len(l) > 0 {
			sum := 0
			for _, share := range shares {
				sum += share
			}
			if sum != api.Million || e != api.OK {
				t.Error(l, shares, e)
			}
		}
		cut := r.IntN(len(l) + 1)
		a, e := treelist.Squares(l[:cut])
		b, f := treelist.Squares(l[cut:])
		if whole, g := treelist.Squares(l); whole != a+b || cmp.Or(e, f, g) != api.OK {
			t.Error(l, cut, a, b, whole, e, f, g)
		}
	})
}
