package frame_test

import (
	"math/big"
	"math/rand/v2"
	"reflect"
	"slices"
	"testing"

	"coupe/api"
	"coupe/fraction"
	"coupe/frame"
)

const (
	lowest  = -1 << 63
	highest = 1<<63 - 1
	limit   = api.MaxFrac
	prime   = 99999989 // the squares of primes like this are above limit
	other   = 99999971
)

func frac(num, den int) api.Frac {
	return api.Frac{Num: num, Den: den}
}

// draw returns a sample with its probability.
func draw(p api.Frac, units ...int) api.Draw {
	return api.Draw{Units: units, P: p}
}

func design(units int, draws ...api.Draw) api.Design {
	return api.Design{Units: units, Draws: draws}
}

// same reports whether two designs are equal, where an empty list and nil are.
func same(a, b api.Design) bool {
	return a.Units == b.Units && slices.EqualFunc(a.Draws, b.Draws, func(x, y api.Draw) bool {
		return x.P == y.P && slices.Equal(x.Units, y.Units)
	})
}

// must returns a result that has no error.
func must[T any](result T, e int) T {
	if e != api.OK {
		panic(e)
	}
	return result
}

// exact returns a fraction for exact calculations.
func exact(f api.Frac) *big.Rat {
	return big.NewRat(int64(f.Num), int64(f.Den))
}

// rounded returns an exact number as a fraction: ErrLimit.
func rounded(x *big.Rat) (api.Frac, int) {
	bound := big.NewInt(limit)
	if x.Num().CmpAbs(bound) > 0 || x.Denom().Cmp(bound) > 0 {
		return api.Frac{}, api.ErrLimit
	}
	return frac(int(x.Num().Int64()), int(x.Denom().Int64())), api.OK
}

// added sums fractions exactly; ErrLimit if one of the sums on the way is too large.
func added(l []api.Frac) (api.Frac, int) {
	sum := new(big.Rat)
	for _, f := range l {
		sum.Add(sum, exact(f))
		if _, e := rounded(sum); e != api.OK {
			return api.Frac{}, e
		}
	}
	return rounded(sum)
}

// bits returns a sample as a number with the bits of its units.
func bits(units []int) int {
	mask := 0
	for _, unit := range units {
		mask |= 1 << unit
	}
	return mask
}

// members returns the units whose bits a number has, ascending.
func members(mask int) []int {
	var units []int
	for unit := range 16 {
		if mask>>unit&1 == 1 {
			units = append(units, unit)
		}
	}
	return units
}

// random returns a valid design with as many different samples as one wants, with weights up to a greatest one.
func random(r *rand.Rand, units, draws, greatest int) api.Design {
	d := api.Design{Units: units}
	masks := r.Perm(1 << units)
	total := 0
	var weights []int
	for range min(draws, len(masks)) {
		weight := 1 + r.IntN(greatest)
		weights, total = append(weights, weight), total+weight
	}
	for i, weight := range weights {
		d.Draws = append(d.Draws, draw(must(fraction.New(weight, total)), members(masks[i])...))
	}
	return d
}

// example is Join of Simple(4, 2) and Systematic(5, 2), with units that have different chances.
func example() api.Design {
	return must(frame.Join(must(frame.Simple(4, 2)), must(frame.Systematic(5, 2))))
}

// designs calls a function for many valid designs.
func designs(seed uint64, f func(d api.Design)) {
	f(example())
	for n := 1; n <= api.MaxUnits; n++ {
		for k := 0; k <= n; k++ {
			f(must(frame.Simple(n, k)))
			if k > 0 {
				f(must(frame.Systematic(n, k)))
			}
		}
	}
	f(must(frame.Independent(slices.Repeat([]api.Frac{frac(1, 2)}, 8))))
	f(must(frame.Independent([]api.Frac{frac(1, 3), frac(0, 1), frac(2, 5), frac(1, 1), frac(1, 7)})))
	r := rand.New(rand.NewPCG(17, seed))
	for range 300 {
		f(random(r, 1+r.IntN(5), 1+r.IntN(20), 1+r.IntN(9)))
	}
	f(random(r, 8, 256, 3))
	f(random(r, 10, 256, 3))
}

// nothing reports whether a result is the zero value, or an empty list.
func nothing(result any) bool {
	v := reflect.ValueOf(result)
	return v.IsZero() || v.Kind() == reflect.Slice && v.Len() == 0
}

// answers returns the results of all functions with designs but Check, and their errors.
func answers(a, b api.Design) (results []any, errors []int) {
	joined, e1 := frame.Join(a, b)
	shares, e2 := frame.Inclusion(a)
	pairs, e3 := frame.Joint(a)
	size, e4 := frame.Size(a)
	fixed, e5 := frame.Fixed(a)
	return []any{joined, shares, pairs, size, fixed}, []int{e1, e2, e3, e4, e5}
}

// checkNothingBesideErrors finds that functions that return an error return nothing else.
func checkNothingBesideErrors(t *testing.T, results []any, errors []int) {
	t.Helper()
	for i, e := range errors {
		if e != api.OK && !nothing(results[i]) {
			t.Error("function", i, "returns", results[i], "beside the error", e)
		}
	}
}

// TestP1_AnyArguments calls all functions with arguments of any form: none panics, and beside an error there is nothing else.
func TestP1_AnyArguments(t *testing.T) {
	numbers := []int{lowest, lowest + 1, -2, -1, 0, 1, 2, 3, 4, 7, 8, 9, 10, 11, 256, 257, limit, limit + 1, highest - 1, highest}
	r := rand.New(rand.NewPCG(17, 1))
	pick := func() int { return numbers[r.IntN(len(numbers))] }
	for _, n := range numbers {
		for _, k := range numbers {
			a, e := frame.Simple(n, k)
			b, f := frame.Systematic(n, k)
			checkNothingBesideErrors(t, []any{a, b}, []int{e, f})
		}
	}
	list := func() []int {
		l := make([]int, r.IntN(4))
		for i := range l {
			l[i] = pick()
		}
		return l
	}
	wild := func() api.Design {
		d := api.Design{Units: pick()}
		for range r.IntN(4) {
			d.Draws = append(d.Draws, draw(frac(pick(), pick()), list()...))
		}
		return d
	}
	valid := []api.Design{{}, example(), design(1, draw(frac(1, 1)))}
	for range 30000 {
		x := valid[r.IntN(len(valid))]
		for _, d := range []api.Design{x, wild()} {
			frame.Check(d)
			results, errors := answers(d, x)
			checkNothingBesideErrors(t, results, errors)
		}
		p := make([]api.Frac, r.IntN(10))
		for i := range p {
			p[i] = frac(pick(), pick())
		}
		d, e := frame.Independent(p)
		checkNothingBesideErrors(t, []any{d}, []int{e})
	}
	for _, d := range []api.Design{
		design(10, make([]api.Draw, 1<<16)...),
		design(10, draw(frac(1, 1), make([]int, 1<<16)...)),
		design(10, draw(frac(1, 2), slices.Repeat([]int{lowest}, 1<<16)...)),
	} {
		results, errors := answers(d, d)
		checkNothingBesideErrors(t, results, errors)
	}
	frame.Independent(make([]api.Frac, 1<<16))
}

// spoil writes into all memory of a result, also behind its lists.
func spoil(result any) {
	switch x := result.(type) {
	case api.Design:
		for i := range x.Draws {
			spoil(x.Draws[i].Units)
		}
		for i := range x.Draws[:cap(x.Draws)] {
			x.Draws[:cap(x.Draws)][i] = draw(frac(-7, 7))
		}
	case [][]api.Frac:
		for i := range x {
			spoil(x[i])
		}
		for i := range x[:cap(x)] {
			x[:cap(x)][i] = nil
		}
	case []api.Frac:
		for i := range x[:cap(x)] {
			x[:cap(x)][i] = frac(-7, 7)
		}
	case []int:
		for i := range x[:cap(x)] {
			x[:cap(x)][i] = -7
		}
	}
}

// roomy returns a design with space behind all its lists, in which something stands.
func roomy(d api.Design) api.Design {
	draws := make([]api.Draw, 0, len(d.Draws)+3)
	for _, x := range append(d.Draws, draw(frac(5, 5)), draw(frac(6, 6), 6), draw(frac(7, 7))) {
		x.Units = append(x.Units, 55, 66, 77)[:len(x.Units)]
		draws = append(draws, x)
	}
	return design(d.Units, draws[:len(d.Draws)]...)
}

// whole returns copies of all memory of a design.
func whole(d api.Design) []api.Draw {
	var l []api.Draw
	for _, x := range d.Draws[:cap(d.Draws)] {
		l = append(l, draw(x.P, slices.Clone(x.Units[:cap(x.Units)])...))
	}
	return l
}

func TestP17_4_ArgumentsAreKept(t *testing.T) {
	a, b := roomy(must(frame.Simple(4, 2))), roomy(must(frame.Independent([]api.Frac{frac(1, 2), frac(1, 3)})))
	p := append(make([]api.Frac, 0, 4), frac(1, 2), frac(2, 3))
	spare := p[:4]
	spare[3] = frac(5, 5)
	keptA, keptB, keptP := whole(a), whole(b), slices.Clone(spare)
	all := func() ([]any, []int) {
		results, errors := answers(a, b)
		simple, e := frame.Simple(5, 3)
		systematic, f := frame.Systematic(7, 3)
		independent, g := frame.Independent(p)
		return append(results, simple, systematic, independent), append(errors, e, f, g)
	}
	frame.Check(a)
	first, errors := all()
	if slices.ContainsFunc(errors, func(e int) bool { return e != api.OK }) {
		t.Error(errors)
	}
	second, _ := all()
	for _, result := range first {
		spoil(result)
	}
	if !reflect.DeepEqual(keptA, whole(a)) || !reflect.DeepEqual(keptB, whole(b)) || !slices.Equal(spare, keptP) {
		t.Error("arguments were changed, or results share memory with them")
	}
	if third, _ := all(); !reflect.DeepEqual(second, third) {
		t.Error("results share memory with each other", second, third)
	}
}

// TestP17_4_ListsAreApart finds that no list of a result lies in the space behind another one.
func TestP17_4_ListsAreApart(t *testing.T) {
	check := func(d api.Design) {
		kept := design(d.Units)
		for _, x := range d.Draws {
			kept.Draws = append(kept.Draws, draw(x.P, slices.Clone(x.Units)...))
		}
		for _, x := range d.Draws {
			spoil(x.Units[len(x.Units):])
		}
		if !same(d, kept) {
			t.Error(d, kept)
		}
	}
	designs(2, check)
	designs(3, func(d api.Design) {
		table := must(frame.Joint(d))
		kept := make([][]api.Frac, len(table))
		for i, row := range table {
			kept[i] = slices.Clone(row)
		}
		for _, row := range table {
			spoil(row[len(row):])
		}
		if !reflect.DeepEqual(kept, table) {
			t.Error(d, table)
		}
	})
}

// eighths returns a valid design in which the draws have the probabilities 1/8, 1/8, 1/4 and 1/2.
func eighths() api.Design {
	return design(3, draw(frac(1, 8)), draw(frac(1, 8), 0, 2), draw(frac(1, 4), 1), draw(frac(1, 2), 0, 1, 2))
}

func TestP17_1_Check(t *testing.T) {
	one := func(d ...api.Draw) api.Design { return design(3, d...) }
	many := random(rand.New(rand.NewPCG(17, 4)), 10, 257, 1)
	for i, x := range []struct {
		d api.Design
		e int
	}{
		{eighths(), api.OK},
		{example(), api.OK},
		{one(draw(frac(1, 1))), api.OK},
		{one(draw(frac(1, 1), 0, 1, 2)), api.OK},
		{design(1, draw(frac(1, 1), 0)), api.OK},
		{design(10, draw(frac(1, 1), 0, 9)), api.OK},
		{design(10, draw(frac(1, 1), 0, 1, 2, 3, 4, 5, 6, 7, 8, 9)), api.OK},
		{random(rand.New(rand.NewPCG(17, 4)), 10, 256, 1), api.OK},
		{one(draw(frac(1, limit), 1), draw(frac(limit-1, limit), 2)), api.OK},
		{one(draw(frac(1, 2), 1), draw(frac(1, 2))), api.OK},
		{one(draw(frac(1, 2), 1), draw(frac(1, 2), 1, 2)), api.OK},
		// The units of the population.
		{design(0, draw(frac(1, 1))), api.ErrRange},
		{design(-1, draw(frac(1, 1))), api.ErrRange},
		{design(11, draw(frac(1, 1))), api.ErrRange},
		{design(lowest, draw(frac(1, 1))), api.ErrRange},
		{design(highest, draw(frac(1, 1))), api.ErrRange},
		{api.Design{}, api.ErrRange},
		{design(11, make([]api.Draw, 257)...), api.ErrRange},
		// The number of draws.
		{many, api.ErrLimit},
		{one(make([]api.Draw, 257)...), api.ErrLimit},
		{one(), api.ErrForm},
		{design(10), api.ErrForm},
		// Units of a sample that there are not, also where the order is wrong.
		{one(draw(frac(1, 1), 3)), api.ErrRange},
		{one(draw(frac(1, 1), -1)), api.ErrRange},
		{one(draw(frac(1, 1), highest)), api.ErrRange},
		{one(draw(frac(1, 1), lowest, 0)), api.ErrRange},
		{one(draw(frac(1, 1), 0, 1, 3)), api.ErrRange},
		{one(draw(frac(1, 1), 2, 1, 3)), api.ErrRange},
		{one(draw(frac(2, 4), 1, 1, 3)), api.ErrRange},
		{one(draw(frac(0, 1), 3)), api.ErrRange},
		{design(10, draw(frac(1, 1), 10)), api.ErrRange},
		{design(1, draw(frac(1, 1), 0, 1)), api.ErrRange},
		// Their order, before the probability.
		{one(draw(frac(1, 1), 1, 0)), api.ErrOrder},
		{one(draw(frac(1, 1), 1, 1)), api.ErrOrder},
		{one(draw(frac(1, 1), 0, 2, 1)), api.ErrOrder},
		{one(draw(frac(1, 1), 0, 1, 1)), api.ErrOrder},
		{one(draw(api.Frac{}, 1, 1)), api.ErrOrder},
		{one(draw(frac(0, 1), 1, 1)), api.ErrOrder},
		// The probability as a fraction.
		{one(draw(api.Frac{}, 1)), api.ErrForm},
		{one(draw(frac(2, 2), 1)), api.ErrForm},
		{one(draw(frac(0, 3), 1)), api.ErrForm},
		{one(draw(frac(1, -1), 1)), api.ErrForm},
		{one(draw(frac(1, limit+1), 1)), api.ErrLimit},
		{one(draw(frac(limit+1, 1), 1)), api.ErrLimit},
		{one(draw(frac(lowest, 1), 1)), api.ErrLimit},
		{one(draw(frac(1, 2), 1), draw(frac(2, 4), 1)), api.ErrForm},
		{one(draw(frac(1, 2), 1), draw(frac(1, highest), 1)), api.ErrLimit},
		// Its size, before the sample that there is already.
		{one(draw(frac(0, 1), 1)), api.ErrRange},
		{one(draw(frac(-1, 1), 1)), api.ErrRange},
		{one(draw(frac(-1, 2), 1)), api.ErrRange},
		{one(draw(frac(2, 1), 1)), api.ErrRange},
		{one(draw(frac(limit, limit-1), 1)), api.ErrRange},
		{one(draw(frac(1, 1), 1), draw(frac(0, 1), 2)), api.ErrRange},
		{one(draw(frac(1, 1), 1), draw(frac(0, 1), 1)), api.ErrRange},
		{one(draw(frac(1, 1), 1), draw(frac(3, 2), 1)), api.ErrRange},
		{one(draw(frac(3, 2), 1), draw(frac(-1, 2), 2)), api.ErrRange},
		// Samples twice, before the sum.
		{one(draw(frac(1, 2), 1), draw(frac(1, 2), 1)), api.ErrExist},
		{one(draw(frac(1, 2)), draw(frac(1, 2))), api.ErrExist},
		{one(draw(frac(1, 4), 0, 2), draw(frac(1, 4), 1), draw(frac(1, 4)), draw(frac(1, 4), 0, 2)), api.ErrExist},
		{one(draw(frac(1, 4), 0, 2), draw(frac(1, 4), 0, 2)), api.ErrExist},
		{one(draw(frac(1, prime), 0), draw(frac(1, other), 1), draw(frac(1, other), 1)), api.ErrExist},
		// The sum.
		{one(draw(frac(1, 2), 1)), api.ErrSum},
		{one(draw(frac(1, 1), 1), draw(frac(1, 1), 2)), api.ErrSum},
		{one(draw(frac(1, 2), 1), draw(frac(limit/2-1, limit), 2)), api.ErrSum},
		{one(draw(frac(1, 3), 1), draw(frac(1, 3), 2)), api.ErrSum},
		{one(draw(frac(limit-1, limit), 1)), api.ErrSum},
		{one(draw(frac(1, 2), 1), draw(frac(1, 2), 2), draw(frac(1, 3))), api.ErrSum},
		{one(draw(frac(1, 2), 1), draw(frac(1, 2), 2), draw(frac(1, limit))), api.ErrLimit},
		{one(draw(frac(1, prime), 0), draw(frac(1, other), 1), draw(frac(1, 2), 2)), api.ErrLimit},
		{one(draw(frac(1, 1), 0), draw(frac(1, prime), 1), draw(frac(1, other), 2)), api.ErrLimit},
		// The sum is 1, but cannot be calculated in this order; in another one it can.
		{one(draw(frac(1, prime), 0), draw(frac(1, other), 1), draw(frac(prime-1, prime), 2), draw(frac(other-1, other))), api.ErrLimit},
		{one(draw(frac(1, prime), 0), draw(frac((prime-1)/2, prime), 2), draw(frac(1, 2))), api.ErrSum},
		{one(draw(frac(1, prime), 0), draw(frac(prime-1, prime), 2)), api.OK},
		// Of several draws the first one with an error.
		{one(draw(frac(1, 2), 1), draw(frac(1, 2), 2, 1), draw(frac(1, 2), 3)), api.ErrOrder},
		{one(draw(frac(1, 2), 1), draw(frac(1, 2), 1), draw(frac(1, 2), 3)), api.ErrExist},
		{one(draw(frac(1, 2), 1), draw(frac(2, 4), 2), draw(frac(1, 2), 2, 1)), api.ErrForm},
		{one(draw(frac(1, 2), 1), draw(frac(1, 2), 3), draw(frac(1, 2), 1)), api.ErrRange},
	} {
		if e := frame.Check(x.d); e != x.e {
			t.Error(i, x.d, e, x.e)
		}
		if x.e == api.OK {
			continue
		}
		for _, other := range []api.Design{eighths(), {}, many} {
			results, errors := answers(x.d, other)
			checkNothingBesideErrors(t, results, errors)
			if slices.ContainsFunc(errors, func(e int) bool { return e != x.e }) {
				t.Error(i, "the error of Check is not the first", errors)
			}
		}
	}
}

// expected returns the error of a design, as the chapter says.
func expected(d api.Design) int {
	switch {
	case d.Units <= 0 || d.Units > 10:
		return api.ErrRange
	case len(d.Draws) > 256:
		return api.ErrLimit
	case len(d.Draws) == 0:
		return api.ErrForm
	}
	seen := map[int]bool{}
	var l []api.Frac
	for _, x := range d.Draws {
		sorted := slices.Compact(slices.Sorted(slices.Values(x.Units)))
		switch {
		case len(sorted) > 0 && (sorted[0] < 0 || sorted[len(sorted)-1] >= d.Units):
			return api.ErrRange
		case !slices.Equal(sorted, x.Units):
			return api.ErrOrder
		case fraction.Check(x.P) != api.OK:
			return fraction.Check(x.P)
		case exact(x.P).Sign() <= 0 || exact(x.P).Cmp(big.NewRat(1, 1)) > 0:
			return api.ErrRange
		case seen[bits(x.Units)]:
			return api.ErrExist
		}
		seen[bits(x.Units)] = true
		l = append(l, x.P)
	}
	sum, e := added(l)
	if e == api.OK && sum != frac(1, 1) {
		return api.ErrSum
	}
	return e
}

// TestP17_1_CheckDefinition compares with the definition for designs with some errors.
func TestP17_1_CheckDefinition(t *testing.T) {
	r := rand.New(rand.NewPCG(17, 5))
	found := map[int]int{}
	shares := []api.Frac{frac(0, 1), frac(1, 1), frac(-1, 3), frac(4, 3), frac(2, 4), frac(1, limit+1), frac(1, 3), frac(1, prime), frac(1, other), frac(limit, 1)}
	for range 60000 {
		d := random(r, 1+r.IntN(4), 1+r.IntN(8), 1+r.IntN(1+r.IntN(4)))
		for range r.IntN(4) {
			x := &d.Draws[r.IntN(len(d.Draws))]
			switch r.IntN(7) {
			case 0:
				x.P = shares[r.IntN(len(shares))]
			case 1:
				r.Shuffle(len(x.Units), func(i, j int) { x.Units[i], x.Units[j] = x.Units[j], x.Units[i] })
			case 2:
				x.Units = append(x.Units, r.IntN(6)-1)
			case 3:
				x.Units = slices.Clone(d.Draws[r.IntN(len(d.Draws))].Units)
			case 4:
				d.Units += r.IntN(3) - 1
			case 5:
				r.Shuffle(len(d.Draws), func(i, j int) { d.Draws[i], d.Draws[j] = d.Draws[j], d.Draws[i] })
			case 6:
				x.P = frac(x.P.Num, x.P.Den+r.IntN(2))
			}
		}
		want := expected(d)
		found[want]++
		if e := frame.Check(d); e != want {
			t.Fatal(d, e, want)
		}
	}
	for _, e := range []int{api.OK, api.ErrRange, api.ErrForm, api.ErrOrder, api.ErrLimit, api.ErrExist, api.ErrSum} {
		if found[e] < 200 {
			t.Error("too few designs with the error", e, found)
		}
	}
}

// TestP17_2_Simple compares with all samples of so many units, brought into their order by comparison.
func TestP17_2_Simple(t *testing.T) {
	four := must(frame.Simple(4, 2))
	sixth := frac(1, 6)
	if want := design(4, draw(sixth, 0, 1), draw(sixth, 0, 2), draw(sixth, 0, 3), draw(sixth, 1, 2), draw(sixth, 1, 3), draw(sixth, 2, 3)); !same(four, want) {
		t.Error(four)
	}
	for n := -2; n <= 13; n++ {
		for k := -2; k <= 14; k++ {
			d, e := frame.Simple(n, k)
			if n < 1 || n > 10 || k < 0 || k > n {
				if e != api.ErrRange || !nothing(d) {
					t.Error(n, k, d, e)
				}
				continue
			}
			var samples [][]int
			for mask := range 1 << n {
				if l := members(mask); len(l) == k {
					samples = append(samples, l)
				}
			}
			slices.SortFunc(samples, slices.Compare)
			want := api.Design{Units: n}
			for _, l := range samples {
				want.Draws = append(want.Draws, draw(frac(1, len(samples)), l...))
			}
			if e != api.OK || !same(d, want) {
				t.Error(n, k, d, e)
			}
		}
	}
}

func TestP17_2_Systematic(t *testing.T) {
	if d := must(frame.Systematic(5, 2)); !same(d, design(5, draw(frac(1, 2), 0, 2, 4), draw(frac(1, 2), 1, 3))) {
		t.Error(d)
	}
	for n := -2; n <= 13; n++ {
		for step := -2; step <= 14; step++ {
			d, e := frame.Systematic(n, step)
			if n < 1 || n > 10 || step < 1 || step > n {
				if e != api.ErrRange || !nothing(d) {
					t.Error(n, step, d, e)
				}
				continue
			}
			want := api.Design{Units: n}
			for s := range step {
				x := draw(frac(1, step))
				for unit := s; unit < n; unit += step {
					x.Units = append(x.Units, unit)
				}
				want.Draws = append(want.Draws, x)
			}
			if e != api.OK || !same(d, want) {
				t.Error(n, step, d, e)
			}
		}
	}
	for _, x := range [][2]int{{highest, 1}, {lowest, 1}, {5, highest}, {5, lowest}, {lowest, lowest}, {highest, highest}} {
		a, e := frame.Systematic(x[0], x[1])
		b, f := frame.Simple(x[0], x[1])
		if e != api.ErrRange || f != api.ErrRange || !nothing(a) || !nothing(b) {
			t.Error(x, e, f)
		}
	}
}

// Three probabilities: the product of the first two is too fine for a fraction, and yet all products of the three can be written. So their order decides.
var (
	first  = frac(10790065, 36339547)
	second = frac(25040800, 37381233)
	third  = frac(36339547, 73720780)
)

func TestP17_3_Independent(t *testing.T) {
	half, zero, one := frac(1, 2), frac(0, 1), frac(1, 1)
	for i, x := range []struct {
		p []api.Frac
		d api.Design
		e int
	}{
		{[]api.Frac{half, one}, design(2, draw(half, 1), draw(half, 0, 1)), api.OK},
		{[]api.Frac{half, half}, design(2, draw(frac(1, 4)), draw(frac(1, 4), 0), draw(frac(1, 4), 1), draw(frac(1, 4), 0, 1)), api.OK},
		{[]api.Frac{frac(1, 3), frac(1, 5)}, design(2, draw(frac(8, 15)), draw(frac(4, 15), 0), draw(frac(2, 15), 1), draw(frac(1, 15), 0, 1)), api.OK},
		{[]api.Frac{zero}, design(1, draw(one)), api.OK},
		{[]api.Frac{one}, design(1, draw(one, 0)), api.OK},
		{[]api.Frac{frac(1, 3)}, design(1, draw(frac(2, 3)), draw(frac(1, 3), 0)), api.OK},
		{slices.Repeat([]api.Frac{zero}, 8), design(8, draw(one)), api.OK},
		{slices.Repeat([]api.Frac{one}, 8), design(8, draw(one, 0, 1, 2, 3, 4, 5, 6, 7)), api.OK},
		{[]api.Frac{zero, frac(1, 7), one, zero}, design(4, draw(frac(6, 7), 2), draw(frac(1, 7), 1, 2)), api.OK},
		{[]api.Frac{frac(1, limit)}, design(1, draw(frac(limit-1, limit)), draw(frac(1, limit), 0)), api.OK},
		{[]api.Frac{zero, frac(1, limit), one}, design(3, draw(frac(limit-1, limit), 2), draw(frac(1, limit), 1, 2)), api.OK},
		{nil, api.Design{}, api.ErrRange},
		{[]api.Frac{}, api.Design{}, api.ErrRange},
		{slices.Repeat([]api.Frac{zero}, 9), api.Design{}, api.ErrRange},
		{make([]api.Frac, 9), api.Design{}, api.ErrRange},
		{[]api.Frac{{}}, api.Design{}, api.ErrForm},
		{[]api.Frac{half, frac(2, 4)}, api.Design{}, api.ErrForm},
		{[]api.Frac{half, frac(1, -2)}, api.Design{}, api.ErrForm},
		{[]api.Frac{half, frac(1, limit+1)}, api.Design{}, api.ErrLimit},
		{[]api.Frac{half, frac(limit+1, 1)}, api.Design{}, api.ErrLimit},
		{[]api.Frac{half, frac(-1, 2)}, api.Design{}, api.ErrRange},
		{[]api.Frac{half, frac(3, 2)}, api.Design{}, api.ErrRange},
		{[]api.Frac{frac(limit, limit-1)}, api.Design{}, api.ErrRange},
		{[]api.Frac{frac(-1, limit)}, api.Design{}, api.ErrRange},
		{[]api.Frac{frac(-1, 1), {}}, api.Design{}, api.ErrRange},
		{[]api.Frac{{}, frac(-1, 1)}, api.Design{}, api.ErrForm},
		{[]api.Frac{frac(1, limit), frac(1, limit), {}}, api.Design{}, api.ErrForm},
		{[]api.Frac{frac(1, limit), frac(1, limit), frac(2, 1)}, api.Design{}, api.ErrRange},
		{[]api.Frac{frac(1, limit), half}, api.Design{}, api.ErrLimit},
		{[]api.Frac{half, frac(1, limit)}, api.Design{}, api.ErrLimit},
		{[]api.Frac{frac(1, prime), frac(1, other)}, api.Design{}, api.ErrLimit},
		{[]api.Frac{zero, frac(1, prime), one, frac(1, other)}, api.Design{}, api.ErrLimit},
		{[]api.Frac{first, second, third}, api.Design{}, api.ErrLimit},
	} {
		if d, e := frame.Independent(x.p); e != x.e || !same(d, x.d) {
			t.Error(i, d, e)
		}
	}
	if d, e := frame.Independent([]api.Frac{second, third, first}); e != api.OK || frame.Check(d) != api.OK {
		t.Error("the product can be calculated in this order", e)
	}
	if d := must(frame.Independent(slices.Repeat([]api.Frac{half}, 8))); len(d.Draws) != 256 || frame.Check(d) != api.OK {
		t.Error("as many samples as there may be", len(d.Draws))
	}
}

// independent returns what Independent has to, for valid probabilities, and whether a product is too fine.
func independent(p []api.Frac) (d api.Design, tooFine bool, e int) {
	d.Units = len(p)
	var l []api.Frac
	for mask := range 1 << len(p) {
		value, fits := big.NewRat(1, 1), true
		for i, f := range p {
			factor := exact(f)
			if mask>>i&1 == 0 {
				factor.Sub(big.NewRat(1, 1), factor)
			}
			_, e := rounded(value.Mul(value, factor))
			fits = fits && e == api.OK
		}
		if value.Sign() == 0 {
			continue
		}
		if !fits {
			return api.Design{}, true, api.ErrLimit
		}
		share, _ := rounded(value)
		d.Draws, l = append(d.Draws, draw(share, members(mask)...)), append(l, share)
	}
	if _, e := added(l); e != api.OK {
		return api.Design{}, false, e
	}
	return d, false, api.OK
}

// interlocked returns three probabilities, all products of which can be written though their denominators have a product that is far too large: these share divisors with numerators. In some orders, products or sums on the way are too fine.
func interlocked(r *rand.Rand) []api.Frac {
	for {
		a, b := 36000000+r.IntN(3000000), 36000000+r.IntN(3000000)
		b -= (a + b) % 35
		// Numerators that 5 divides, and that leave denominators less them that 7 divides.
		m, q := r.IntN(a/35)*35, r.IntN(b/35)*35
		m, q = m+a%7*15, q+b%7*15
		p := []api.Frac{frac(m, a), frac(q, b), frac(a, a+b)}
		if !slices.ContainsFunc(p, func(f api.Frac) bool { return fraction.Check(f) != api.OK || f.Num == 0 || f.Num >= f.Den }) {
			r.Shuffle(3, func(i, j int) { p[i], p[j] = p[j], p[i] })
			return p
		}
	}
}

// TestP17_3_Definition compares with exact products, with denominators so large that some of them, or only their sums, are too fine.
func TestP17_3_Definition(t *testing.T) {
	r := rand.New(rand.NewPCG(17, 6))
	found, sums := map[int]int{}, 0
	check := func(p []api.Frac) {
		want, tooFine, f := independent(p)
		found[f]++
		if d, e := frame.Independent(p); e != f || !same(d, want) {
			t.Fatal(p, d, e, want, f)
		}
		if f == api.ErrLimit && !tooFine {
			sums++
		}
	}
	for range 10000 {
		p := make([]api.Frac, 1+r.IntN(8))
		greatest := []int{2, 10, 100, 4000, 40000, 4000000, 40000000}[r.IntN(7)]
		for i := range p {
			den := 1 + r.IntN(greatest)
			p[i] = must(fraction.New(r.IntN(den+1), den))
		}
		check(p)
	}
	if found[api.OK] < 1000 || found[api.ErrLimit] < 1000 {
		t.Error("too few lists of a kind", found)
	}
	clear(found)
	for range 3000 {
		check(interlocked(r))
	}
	if found[api.OK] < 50 || found[api.ErrLimit] < 50 || sums < 50 {
		t.Error("too few lists of a kind", found, sums)
	}
}

func TestP17_4_Join(t *testing.T) {
	half := frac(1, 2)
	simple := func(n, k int) api.Design { return must(frame.Simple(n, k)) }
	systematic := func(n, step int) api.Design { return must(frame.Systematic(n, step)) }
	two := func(den int) api.Design {
		return design(1, draw(frac(1, den)), draw(frac(den-1, den), 0))
	}
	three := func(a, b, c api.Frac) api.Design { return design(2, draw(a), draw(b, 0), draw(c, 1)) }
	// All products of these two can be written, but not all sums of the first ones.
	left := three(frac(4320823, 15449271), frac(16630979, 30898542), frac(5625917, 30898542))
	right := three(frac(7397049, 35617907), frac(17852100, 35617907), frac(10368758, 35617907))
	for _, x := range left.Draws {
		for _, y := range right.Draws {
			must(fraction.Mul(x.P, y.P))
		}
	}
	for i, x := range []struct {
		a, b, d api.Design
		e       int
	}{
		{simple(2, 1), systematic(1, 1), design(3, draw(half, 0, 2), draw(half, 1, 2)), api.OK},
		{systematic(1, 1), simple(2, 1), design(3, draw(half, 0, 1), draw(half, 0, 2)), api.OK},
		{simple(1, 0), simple(1, 0), design(2, draw(frac(1, 1))), api.OK},
		{simple(2, 0), simple(3, 3), design(5, draw(frac(1, 1), 2, 3, 4)), api.OK},
		{two(3), two(5), design(2, draw(frac(1, 15)), draw(frac(4, 15), 1), draw(frac(2, 15), 0), draw(frac(8, 15), 0, 1)), api.OK},
		{two(limit), systematic(1, 1), design(2, draw(frac(1, limit), 1), draw(frac(limit-1, limit), 0, 1)), api.OK},
		{simple(10, 5), systematic(1, 1), api.Design{}, api.ErrLimit},
		{systematic(1, 1), simple(10, 5), api.Design{}, api.ErrLimit},
		{simple(5, 1), simple(6, 1), api.Design{}, api.ErrLimit},
		{simple(8, 1), simple(3, 0), api.Design{}, api.ErrLimit},
		{simple(5, 2), simple(8, 0), api.Design{}, api.ErrLimit},
		{two(limit), two(2), api.Design{}, api.ErrLimit},
		{two(prime), two(other), api.Design{}, api.ErrLimit},
		{left, right, api.Design{}, api.ErrLimit},
	} {
		if d, e := frame.Join(x.a, x.b); e != x.e || !same(d, x.d) {
			t.Error(i, d, e)
		}
	}
}

// TestP17_4_Limits joins designs that have just as many units and samples as there may be, and one more.
func TestP17_4_Limits(t *testing.T) {
	r := rand.New(rand.NewPCG(17, 7))
	for i, x := range []struct {
		units, draws [2]int
		e            int
	}{
		{[2]int{5, 5}, [2]int{16, 16}, api.OK},
		{[2]int{5, 5}, [2]int{32, 8}, api.OK},
		{[2]int{8, 2}, [2]int{256, 1}, api.OK},
		{[2]int{2, 8}, [2]int{1, 256}, api.OK},
		{[2]int{8, 2}, [2]int{128, 2}, api.OK},
		{[2]int{9, 1}, [2]int{200, 1}, api.OK},
		{[2]int{9, 2}, [2]int{2, 1}, api.ErrLimit},
		{[2]int{2, 9}, [2]int{1, 1}, api.ErrLimit},
		{[2]int{10, 10}, [2]int{256, 256}, api.ErrLimit},
		{[2]int{5, 5}, [2]int{17, 16}, api.ErrLimit},
		{[2]int{5, 5}, [2]int{16, 17}, api.ErrLimit},
		{[2]int{8, 2}, [2]int{129, 2}, api.ErrLimit},
		{[2]int{8, 2}, [2]int{256, 2}, api.ErrLimit},
		{[2]int{8, 2}, [2]int{86, 3}, api.ErrLimit},
		{[2]int{4, 6}, [2]int{16, 64}, api.ErrLimit},
	} {
		d, e := frame.Join(random(r, x.units[0], x.draws[0], 1), random(r, x.units[1], x.draws[1], 1))
		if e != x.e || e == api.OK && (frame.Check(d) != api.OK || d.Units != x.units[0]+x.units[1] || len(d.Draws) != x.draws[0]*x.draws[1]) {
			t.Error(i, d, e)
		}
	}
}

// TestP17_4_Order finds the error of the first design before that of the second one, and before the limits.
func TestP17_4_Order(t *testing.T) {
	form, limited := design(3), design(11, make([]api.Draw, 300)...)
	sum := design(3, draw(frac(1, 2)))
	for i, x := range []struct {
		a, b api.Design
		e    int
	}{
		{form, sum, api.ErrForm},
		{sum, form, api.ErrSum},
		{limited, sum, api.ErrRange},
		{must(frame.Simple(10, 5)), sum, api.ErrSum},
		{sum, must(frame.Simple(10, 5)), api.ErrSum},
		{must(frame.Simple(10, 5)), form, api.ErrForm},
	} {
		if d, e := frame.Join(x.a, x.b); e != x.e || !nothing(d) {
			t.Error(i, d, e)
		}
	}
}

// TestP17_4_Definition compares with exact products of designs, some of which are too fine, or have sums that are.
func TestP17_4_Definition(t *testing.T) {
	r := rand.New(rand.NewPCG(17, 8))
	found, sums := map[int]int{}, 0
	for range 8000 {
		greatest := []int{1, 3, 1000, 10000000, 30000000, 300000000}[r.IntN(6)]
		a, b := random(r, 1+r.IntN(4), 1+r.IntN(5), greatest), random(r, 1+r.IntN(4), 1+r.IntN(5), greatest)
		want, f := api.Design{Units: a.Units + b.Units}, api.OK
		var l []api.Frac
		for _, x := range a.Draws {
			for _, y := range b.Draws {
				share, e := rounded(new(big.Rat).Mul(exact(x.P), exact(y.P)))
				f = max(f, e)
				want.Draws = append(want.Draws, draw(share, members(bits(x.Units)|bits(y.Units)<<a.Units)...))
				l = append(l, share)
			}
		}
		if f == api.OK {
			if _, f = added(l); f != api.OK {
				sums++
			}
		}
		if f != api.OK {
			want = api.Design{}
		}
		found[f]++
		if d, e := frame.Join(a, b); e != f || !same(d, want) {
			t.Fatal(a, b, d, e, want, f)
		}
	}
	if found[api.OK] < 1000 || found[api.ErrLimit] < 1000 || sums == 0 {
		t.Error("too few designs of a kind", found, sums)
	}
}

// shares returns the probabilities of the draws that contain some units, in the order of the draws.
func shares(d api.Design, units ...int) []api.Frac {
	var l []api.Frac
	for _, x := range d.Draws {
		if bits(x.Units)&bits(units) == bits(units) {
			l = append(l, x.P)
		}
	}
	return l
}

func TestP17_5_Examples(t *testing.T) {
	half, sixth := frac(1, 2), frac(1, 6)
	d := must(frame.Simple(4, 2))
	if l, e := frame.Inclusion(d); e != api.OK || !slices.Equal(l, slices.Repeat([]api.Frac{half}, 4)) {
		t.Error(l, e)
	}
	want := [][]api.Frac{{half, sixth, sixth, sixth}, {sixth, half, sixth, sixth}, {sixth, sixth, half, sixth}, {sixth, sixth, sixth, half}}
	if table, e := frame.Joint(d); e != api.OK || !reflect.DeepEqual(table, want) {
		t.Error(table, e)
	}
	if f, e := frame.Size(d); e != api.OK || f != frac(2, 1) {
		t.Error(f, e)
	}
	if n, e := frame.Fixed(d); e != api.OK || n != 2 {
		t.Error(n, e)
	}
	d = must(frame.Systematic(5, 2))
	if f, e := frame.Size(d); e != api.OK || f != frac(5, 2) {
		t.Error(f, e)
	}
	if n, e := frame.Fixed(d); e != api.OK || n != -1 {
		t.Error(n, e)
	}
	// A unit that is in no sample, and one that is in all of them.
	d = design(3, draw(frac(1, 4), 1), draw(frac(3, 4), 0, 1))
	if l, e := frame.Inclusion(d); e != api.OK || !slices.Equal(l, []api.Frac{frac(3, 4), frac(1, 1), frac(0, 1)}) {
		t.Error(l, e)
	}
	zero := frac(0, 1)
	want = [][]api.Frac{{frac(3, 4), frac(3, 4), zero}, {frac(3, 4), frac(1, 1), zero}, {zero, zero, zero}}
	if table, e := frame.Joint(d); e != api.OK || !reflect.DeepEqual(table, want) {
		t.Error(table, e)
	}
}

func TestP17_5_Fixed(t *testing.T) {
	half := frac(1, 2)
	for i, x := range []struct {
		d    api.Design
		size int
	}{
		{design(3, draw(frac(1, 1))), 0},
		{design(3, draw(frac(1, 1), 0, 1, 2)), 3},
		{design(3, draw(half, 0), draw(half, 2)), 1},
		{design(3, draw(half, 0), draw(half)), -1},
		{design(3, draw(half), draw(half, 0)), -1},
		{design(3, draw(half, 1, 2), draw(frac(1, 4), 0, 2), draw(frac(1, 4), 0, 1)), 2},
		{design(3, draw(half, 1, 2), draw(frac(1, 4), 0, 2), draw(frac(1, 4), 0, 1, 2)), -1},
		{design(3, draw(half, 1, 2), draw(frac(1, 4), 1), draw(frac(1, 4), 0, 1)), -1},
	} {
		if n, e := frame.Fixed(x.d); n != x.size || e != api.OK {
			t.Error(i, n, e)
		}
	}
}

// TestP17_5_Definitions compares with exact sums over the draws.
func TestP17_5_Definitions(t *testing.T) {
	check := func(d api.Design) (limits [3]bool) {
		var inclusion []api.Frac
		joint := make([][]api.Frac, d.Units)
		f, g := api.OK, api.OK
		for i := range d.Units {
			share, e := added(shares(d, i))
			inclusion, f = append(inclusion, share), max(f, e)
			for j := range d.Units {
				share, e := added(shares(d, j, i))
				joint[i], g = append(joint[i], share), max(g, e)
			}
		}
		size, h := api.Frac{}, f
		if f == api.OK {
			size, h = added(inclusion)
		} else {
			inclusion = nil
		}
		if g != api.OK {
			joint = nil
		}
		if l, e := frame.Inclusion(d); e != f || !slices.Equal(l, inclusion) {
			t.Fatal(d, l, e, inclusion, f)
		}
		if table, e := frame.Joint(d); e != g || !reflect.DeepEqual(table, joint) {
			t.Fatal(d, table, e, joint, g)
		}
		if n, e := frame.Size(d); e != h || n != size {
			t.Fatal(d, n, e, size, h)
		}
		return [3]bool{f != api.OK, g != f, h != f}
	}
	designs(9, func(d api.Design) { check(d) })
	// Draws in pairs: their own sums can be calculated, but not those of other draws.
	r := rand.New(rand.NewPCG(17, 10))
	var found [3]int
	for range 5000 {
		d := api.Design{Units: 2 + r.IntN(5)}
		masks := r.Perm(1 << d.Units)
		pairs := 1 + r.IntN(min(4, len(masks)/2))
		for i := range pairs {
			den := []int{3, prime, other, 99999959, 5}[r.IntN(5)]
			d.Draws = append(d.Draws, draw(frac(1, den), members(masks[2*i])...))
			d.Draws = append(d.Draws, draw(must(fraction.Sub(frac(1, pairs), frac(1, den))), members(masks[2*i+1])...))
		}
		if frame.Check(d) != api.OK {
			continue
		}
		for i, is := range check(d) {
			if is {
				found[i]++
			}
		}
	}
	if found[0] < 20 || found[1] == 0 || found[2] < 20 {
		t.Error("too few designs whose sums are too fine", found)
	}
}

// TestP17_5_Limits finds sums that are too fine in Inclusion, in Joint alone, and in Size alone.
func TestP17_5_Limits(t *testing.T) {
	half, p, q := frac(1, 2), frac(1, prime), frac(1, other)
	rest := func(whole, part api.Frac) api.Frac { return must(fraction.Sub(whole, part)) }
	quarter := frac(1, 4)
	joint := design(3,
		draw(p, 0, 1), draw(rest(quarter, p), 0), draw(rest(quarter, p), 1), draw(must(fraction.Add(quarter, p))),
		draw(q, 0, 1, 2), draw(rest(quarter, q), 2))
	for i, x := range []struct {
		d api.Design
		e [3]int // of Inclusion, Joint and Size
	}{
		{design(2, draw(p, 0), draw(rest(half, p)), draw(q, 0, 1), draw(rest(half, q), 1)), [3]int{api.ErrLimit, api.ErrLimit, api.ErrLimit}},
		{design(2, draw(p, 1), draw(rest(half, p)), draw(q, 0, 1), draw(rest(half, q), 0)), [3]int{api.ErrLimit, api.ErrLimit, api.ErrLimit}},
		{design(4, draw(p, 0), draw(rest(half, p), 2), draw(q, 1), draw(rest(half, q), 3)), [3]int{api.OK, api.OK, api.ErrLimit}},
		{design(4, draw(p, 0), draw(rest(half, p), 1), draw(q, 2), draw(rest(half, q), 3)), [3]int{api.OK, api.OK, api.OK}},
		{joint, [3]int{api.OK, api.ErrLimit, api.OK}},
	} {
		if e := frame.Check(x.d); e != api.OK {
			t.Error(i, e)
		}
		l, e := frame.Inclusion(x.d)
		table, f := frame.Joint(x.d)
		size, g := frame.Size(x.d)
		if errors := [3]int{e, f, g}; errors != x.e {
			t.Error(i, errors)
		}
		checkNothingBesideErrors(t, []any{l, table, size}, []int{e, f, g})
	}
}

// TestP17_6_Valid finds that designs without an error are valid.
func TestP17_6_Valid(t *testing.T) {
	var small []api.Design
	designs(11, func(d api.Design) {
		if e := frame.Check(d); e != api.OK {
			t.Error(d, e)
		}
		if len(d.Draws) < 7 && d.Units < 6 {
			small = append(small, d)
		}
	})
	for _, a := range small[:60] {
		for _, b := range small {
			if d, e := frame.Join(a, b); e != api.OK || frame.Check(d) != api.OK {
				t.Error(a, b, d, e)
			}
		}
	}
}

// checkChances compares the chances of units and pairs with those that a design is said to have.
func checkChances(t *testing.T, d api.Design, unit func(i int) *big.Rat, pair func(i, j int) *big.Rat) {
	t.Helper()
	l, e := frame.Inclusion(d)
	table, f := frame.Joint(d)
	if e != api.OK || f != api.OK || len(l) != d.Units || len(table) != d.Units {
		t.Error(d, l, e, table, f)
		return
	}
	for i := range d.Units {
		if exact(l[i]).Cmp(unit(i)) != 0 {
			t.Error(d, i, l[i])
		}
		for j := range d.Units {
			if i != j && pair != nil && exact(table[i][j]).Cmp(pair(i, j)) != 0 {
				t.Error(d, i, j, table[i][j])
			}
		}
	}
}

func TestP17_6_Chances(t *testing.T) {
	for n := 1; n <= api.MaxUnits; n++ {
		for k := range n + 1 {
			unit := func(int) *big.Rat { return big.NewRat(int64(k), int64(n)) }
			checkChances(t, must(frame.Simple(n, k)), unit, func(int, int) *big.Rat { return big.NewRat(int64(k*(k-1)), int64(n*(n-1))) })
			if k > 0 {
				checkChances(t, must(frame.Systematic(n, k)), func(int) *big.Rat { return big.NewRat(1, int64(k)) }, nil)
			}
		}
	}
	r := rand.New(rand.NewPCG(17, 12))
	for range 300 {
		p := make([]api.Frac, 1+r.IntN(8))
		for i := range p {
			p[i] = must(fraction.New(r.IntN(8), 7))
		}
		checkChances(t, must(frame.Independent(p)),
			func(i int) *big.Rat { return exact(p[i]) },
			func(i, j int) *big.Rat { return new(big.Rat).Mul(exact(p[i]), exact(p[j])) })
	}
}

// TestP17_6_Sizes finds what the chances add up to, also in designs with samples of one size and different weights.
func TestP17_6_Sizes(t *testing.T) {
	fixed := 0
	check := func(d api.Design) {
		l, table := must(frame.Inclusion(d)), must(frame.Joint(d))
		mean := new(big.Rat)
		for _, x := range d.Draws {
			mean.Add(mean, new(big.Rat).Mul(exact(x.P), big.NewRat(int64(len(x.Units)), 1)))
		}
		if size, e := frame.Size(d); e != api.OK || exact(size).Cmp(mean) != 0 {
			t.Error(d, size, e, mean)
		}
		for i, row := range table {
			if row[i] != l[i] {
				t.Error(d, i, row[i], l[i])
			}
			for j := range row {
				if row[j] != table[j][i] {
					t.Error(d, i, j, row[j], table[j][i])
				}
			}
		}
		m, e := frame.Fixed(d)
		if m < 0 || e != api.OK {
			return
		}
		fixed++
		if mean.Cmp(big.NewRat(int64(m), 1)) != 0 {
			t.Error(d, m, mean)
		}
		for i, row := range table {
			sum := new(big.Rat).Neg(exact(row[i]))
			for _, f := range row {
				sum.Add(sum, exact(f))
			}
			if sum.Cmp(new(big.Rat).Mul(big.NewRat(int64(m-1), 1), exact(l[i]))) != 0 {
				t.Error(d, i, m, sum)
			}
		}
	}
	designs(13, check)
	r := rand.New(rand.NewPCG(17, 14))
	for range 200 {
		n := 2 + r.IntN(5)
		d := must(frame.Simple(n, 1+r.IntN(n)))
		total := 0
		weights := make([]int, len(d.Draws))
		for i := range weights {
			weights[i] = 1 + r.IntN(5)
			total += weights[i]
		}
		for i := range d.Draws {
			d.Draws[i].P = must(fraction.New(weights[i], total))
		}
		check(d)
	}
	if fixed < 250 {
		t.Error("only", fixed, "designs have samples of one size")
	}
}

// TestP3_ExpectationOfTotals finds that what the chances of units are made for holds: the values of a sample, divided by them, have the true total as expectation.
func TestP3_ExpectationOfTotals(t *testing.T) {
	r := rand.New(rand.NewPCG(17, 15))
	designs(16, func(d api.Design) {
		l := must(frame.Inclusion(d))
		if slices.Contains(l, frac(0, 1)) {
			return
		}
		total, mean := new(big.Rat), new(big.Rat)
		values := make([]*big.Rat, d.Units)
		for i := range values {
			values[i] = big.NewRat(int64(r.IntN(1000)), 1)
			total.Add(total, values[i])
		}
		for _, x := range d.Draws {
			for _, i := range x.Units {
				part := new(big.Rat).Quo(values[i], exact(l[i]))
				mean.Add(mean, part.Mul(part, exact(x.P)))
			}
		}
		if mean.Cmp(total) != 0 {
			t.Error(d, mean, total)
		}
	})
}
