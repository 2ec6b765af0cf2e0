package strata_test

import (
	"math/big"
	"math/rand/v2"
	"reflect"
	"slices"
	"testing"

	"coupe/api"
	"coupe/strata"
)

const (
	lowest  = -1 << 63
	highest = 1<<63 - 1
	limit   = api.MaxFrac
	million = 1000000
)

func frac(num, den int) api.Frac {
	return api.Frac{Num: num, Den: den}
}

// stratum returns a stratum with this size and these values.
func stratum(size int, values ...int) api.Stratum {
	return api.Stratum{Size: size, Values: values}
}

// list returns strata.
func list(l ...api.Stratum) []api.Stratum {
	return l
}

// example returns the strata of the chapter.
func example() []api.Stratum {
	return list(stratum(10, 1, 2, 4), stratum(4, 5, 7))
}

// many returns equal strata, as many as one wants.
func many(count int) []api.Stratum {
	return slices.Repeat(list(stratum(3, 1, 2)), count)
}

// same returns as many equal numbers as one wants.
func same(x, count int) []int {
	return slices.Repeat([]int{x}, count)
}

// must returns a result that has no error.
func must[T any](result T, e int) T {
	if e != api.OK {
		panic(e)
	}
	return result
}

// sum returns the sum of numbers.
func sum(l []int) int {
	total := 0
	for _, x := range l {
		total += x
	}
	return total
}

// whole returns a number for exact calculations.
func whole(n int) *big.Rat {
	return big.NewRat(int64(n), 1)
}

// exact returns a fraction for exact calculations.
func exact(f api.Frac) *big.Rat {
	return big.NewRat(int64(f.Num), int64(f.Den))
}

// beyond reports whether an exact number is too large or too fine for a fraction.
func beyond(x *big.Rat) bool {
	bound := big.NewInt(limit)
	return x.Num().CmpAbs(bound) > 0 || x.Denom().Cmp(bound) > 0
}

// added returns the sum of exact numbers, added from left to right: ErrLimit if a sum on the way is beyond the limit.
func added(l []*big.Rat) (api.Frac, int) {
	total := whole(0)
	for _, x := range l {
		total = new(big.Rat).Add(total, x)
		if beyond(total) {
			return api.Frac{}, api.ErrLimit
		}
	}
	return frac(int(total.Num().Int64()), int(total.Denom().Int64())), api.OK
}

// equal reports whether two lists of strata are equal, where an empty list and nil are.
func equal(a, b []api.Stratum) bool {
	return slices.EqualFunc(a, b, func(a, b api.Stratum) bool { return a.Size == b.Size && slices.Equal(a.Values, b.Values) })
}

// answers returns what the functions but Check return for some arguments.
func answers(l []api.Stratum, sizes, second, third []int, n int) (results []any, errors []int) {
	note := func(e int, all ...any) {
		for _, result := range all {
			results, errors = append(results, result), append(errors, e)
		}
	}
	total, variance, e := strata.Total(l)
	note(e, total, variance)
	mean, e := strata.Mean(l)
	note(e, mean)
	shares, e := strata.Proportional(sizes, n)
	note(e, shares)
	shares, e = strata.Neyman(sizes, second, n)
	note(e, shares)
	cost, e := strata.Cost(sizes, second, third)
	note(e, cost)
	parts, e := strata.Post(sizes, second, third)
	note(e, parts)
	return results, errors
}

// checkNothingBesideErrors finds that beside each error the result is the zero value or an empty list.
func checkNothingBesideErrors(t *testing.T, results []any, errors []int) {
	t.Helper()
	for i, e := range errors {
		value := reflect.ValueOf(results[i])
		if e != api.OK && !value.IsZero() && !(value.Kind() == reflect.Slice && value.Len() == 0) {
			t.Errorf("beside the error %d the result %d is %v", e, i, results[i])
		}
	}
}

func TestP1_AnyArguments(t *testing.T) {
	numbers := []int{lowest, -million - 1, -1, 0, 1, 2, 3, 17, 1000, 1001, million, million + 1, highest}
	r := rand.New(rand.NewPCG(22, 1))
	pick := func() int { return numbers[r.IntN(len(numbers))] }
	ints := func() []int {
		l := make([]int, []int{0, 1, 2, 3, 17, 1001}[r.IntN(6)])
		for i := range l {
			l[i] = pick()
		}
		return l
	}
	for range 20000 {
		var l []api.Stratum
		for range r.IntN(4) {
			l = append(l, stratum(pick(), ints()...))
		}
		strata.Check(l)
		results, errors := answers(l, ints(), ints(), ints(), pick())
		checkNothingBesideErrors(t, results, errors)
	}
}

// spare returns numbers with spare capacity behind them.
func spare(l ...int) []int {
	return append(slices.Clone(l), 71, 72, 73, 74)[:len(l)]
}

func TestP22_6_ArgumentsAreKept(t *testing.T) {
	l := append(example(), stratum(99, 98, 97))[:2]
	l[0].Values, l[1].Values = spare(1, 2, 4), spare(5, 7)
	sizes, variances, share := spare(10, 4), spare(1, 25), spare(2, 4)
	labels, values := spare(1, 0, 0, 1), spare(8, 6, 4, 2)
	stay := func(name string, list []int, want ...int) {
		if !slices.Equal(list[:len(list)+4], append(want, 71, 72, 73, 74)) {
			t.Error(name, "are now", list[:len(list)+4])
		}
	}
	for range 2 {
		strata.Check(l)
		strata.Total(l)
		strata.Mean(l)
		proportional := must(strata.Proportional(sizes, 5))
		neyman := must(strata.Neyman(sizes, variances, 6))
		strata.Cost(sizes, variances, share)
		parts := must(strata.Post(sizes, labels, values))
		if !slices.Equal(proportional, []int{4, 1}) || !slices.Equal(neyman, []int{2, 4}) || !equal(parts, list(stratum(10, 6, 4), stratum(4, 8, 2))) {
			t.Error("the results are", proportional, neyman, parts)
		}
		proportional[0], neyman[0] = -7, -7
		first := append(parts[0].Values, -7, -7, -7, -7)
		first[0], parts[0].Size = -7, -7
		if !slices.Equal(parts[1].Values, []int{8, 2}) {
			t.Error("the values of two strata share memory")
		}
	}
	stay("the first values", l[0].Values, 1, 2, 4)
	stay("the second values", l[1].Values, 5, 7)
	stay("sizes", sizes, 10, 4)
	stay("variances", variances, 1, 25)
	stay("shares", share, 2, 4)
	stay("labels", labels, 1, 0, 0, 1)
	stay("values", values, 8, 6, 4, 2)
	if rest := l[:3][2]; rest.Size != 99 || !slices.Equal(rest.Values, []int{98, 97}) {
		t.Error("behind the strata there is now", rest)
	}
}

func TestP22_1_Check(t *testing.T) {
	good := stratum(10, 1, 2, 4)
	for i, c := range []struct {
		l []api.Stratum
		e int
	}{
		{example(), api.OK},
		{list(stratum(2, 0, 0)), api.OK},
		{many(16), api.OK},
		{list(stratum(million, 3, 3)), api.OK},
		{list(stratum(1000, same(-million, 1000)...)), api.OK},
		{nil, api.ErrNone},
		{list(), api.ErrNone},
		{many(17), api.ErrLimit},
		{slices.Repeat(list(stratum(0)), 17), api.ErrLimit},
		{list(good, stratum(0)), api.ErrRange},
		{list(good, stratum(-1, 1, 2)), api.ErrRange},
		{list(good, stratum(million+1, 1, 2)), api.ErrRange},
		{list(good, stratum(1, 1, 2)), api.ErrRange},      // fewer units than values
		{list(good, stratum(1000001)), api.ErrRange},      // before the number of values
		{list(stratum(10), good), api.ErrNone},            // no values
		{list(stratum(10, 5), good), api.ErrNone},         // one value
		{list(stratum(10, million+1), good), api.ErrNone}, // before the value
		{list(stratum(10, 1, million+1)), api.ErrLimit},
		{list(stratum(10, 1, -million-1)), api.ErrLimit},
		{list(stratum(2000, same(1, 1001)...)), api.ErrLimit},
		{list(stratum(1000, same(1, 1001)...)), api.ErrRange},        // fewer units than values, which are too many
		{list(stratum(million, million, -million)), api.ErrLimit},    // the variance of the total
		{list(good, stratum(10, 5), stratum(0)), api.ErrNone},        // the first stratum that has an error
		{list(good, stratum(0), stratum(10, 5)), api.ErrRange},       // the first stratum that has an error
		{list(stratum(10, lowest, 1), stratum(10, 5)), api.ErrLimit}, // the first stratum that has an error
		{append(many(15), stratum(3, 1)), api.ErrNone},               // the last stratum
		{list(stratum(highest, 1, 2)), api.ErrRange},
		{list(stratum(lowest, 1, 2)), api.ErrRange},
	} {
		if e := strata.Check(c.l); e != c.e {
			t.Errorf("%d: Check is %d, want %d", i, e, c.e)
		}
		if _, _, e := strata.Total(c.l); e != c.e {
			t.Errorf("%d: Total returns the error %d, want %d", i, e, c.e)
		}
		if _, e := strata.Mean(c.l); e != c.e {
			t.Errorf("%d: Mean returns the error %d, want %d", i, e, c.e)
		}
	}
}

// fineVariances returns strata whose totals are 4, and whose variances have great prime denominators.
func fineVariances() []api.Stratum {
	var l []api.Stratum
	for _, q := range []int{499, 491, 487, 479, 467, 463} {
		n := 2*q + 1
		l = append(l, stratum(2*n, append([]int{1, 1}, same(0, n-2)...)...))
	}
	return l
}

// padded returns values with zeros behind them.
func padded(count int, values ...int) []int {
	return append(values, same(0, count-len(values))...)
}

// primeValues returns lists of values whose totals have different primes as denominators, and the variances of these only small numbers.
func primeValues() [][]int {
	return [][]int{
		padded(49, 5, 7, -5), padded(121, 1, 7, 14), padded(169, 2, 7, 17), padded(289, 1, 23, -7),
		padded(361, 1, 14, 23), padded(529, 7, 29, -13), padded(841, 1, 23, 34), padded(961, 5, 7, -43),
	}
}

// coarse returns strata whose totals together have a great denominator, and the variances of these a small one. The size of a stratum is above that of the one before by a step.
func coarse(size, step int) []api.Stratum {
	var l []api.Stratum
	for i, values := range primeValues() {
		l = append(l, stratum(size+step*i, values...))
	}
	return l
}

// fineTotals returns strata whose totals have no sum within the limit, while the variances have one.
func fineTotals() []api.Stratum {
	var l []api.Stratum
	for _, values := range append(primeValues(), padded(9, -4, -2, -1, 1), padded(25, -7, -2, -1), padded(97, 1), padded(103, 1)) {
		l = append(l, stratum(len(values)+1, values...))
	}
	return l
}

func TestP22_2_Total(t *testing.T) {
	for i, c := range []struct {
		l                     []api.Stratum
		total, variance, mean api.Frac
		e, meanError          int
	}{
		{example(), frac(142, 3), frac(562, 9), frac(71, 21), api.OK, api.OK},
		{list(stratum(10, 1, 2, 4)), frac(70, 3), frac(490, 9), frac(7, 3), api.OK, api.OK},
		{list(stratum(4, 5, 7)), frac(24, 1), frac(8, 1), frac(6, 1), api.OK, api.OK},
		{list(stratum(2, 5, 7), stratum(3, 1, 1, 4)), frac(18, 1), frac(0, 1), frac(18, 5), api.OK, api.OK}, // all units are known
		{list(stratum(2, -5, 5), stratum(4, 0, 0)), frac(0, 1), frac(0, 1), frac(0, 1), api.OK, api.OK},
		{list(stratum(4, -5, -7), stratum(4, 1, 1)), frac(-20, 1), frac(8, 1), frac(-5, 2), api.OK, api.OK},
		{slices.Repeat(list(stratum(million, million, million)), 16), frac(16000000000000, 1), frac(0, 1), frac(million, 1), api.OK, api.OK},
		{many(16), frac(72, 1), frac(12, 1), frac(3, 2), api.OK, api.OK},
		{fineVariances(), frac(0, 0), frac(0, 0), frac(0, 0), api.ErrLimit, api.ErrLimit},
		{fineTotals(), frac(0, 0), frac(0, 0), frac(0, 0), api.ErrLimit, api.ErrLimit},
		{coarse(60001, 13), frac(290062326389705, 6685349671), frac(9059301462413, 27720), frac(0, 0), api.OK, api.ErrLimit},
		{coarse(49999, 0), frac(241601659070176, 6685349671), frac(1396238024681, 6160), frac(604016228, 6685349671), api.OK, api.OK},
	} {
		total, variance, e := strata.Total(c.l)
		if total != c.total || variance != c.variance || e != c.e {
			t.Errorf("%d: Total is %v, %v, %d, want %v, %v, %d", i, total, variance, e, c.total, c.variance, c.e)
		}
		if mean, e := strata.Mean(c.l); mean != c.mean || e != c.meanError {
			t.Errorf("%d: Mean is %v, %d, want %v, %d", i, mean, e, c.mean, c.meanError)
		}
		if e := strata.Check(c.l); e != api.OK {
			t.Errorf("%d: Check is %d", i, e)
		}
	}
	_, variances := estimates(fineTotals())
	if _, e := added(variances); e != api.OK {
		t.Error("not only the totals are too fine")
	}
}

// random returns strata without an error.
func random(r *rand.Rand) []api.Stratum {
	var l []api.Stratum
	count := 1 + r.IntN([]int{4, 16}[r.IntN(2)])
	greatest := []int{5, 100, 10000}[r.IntN(3)]
	for len(l) < count {
		n := 2 + r.IntN([]int{3, 30, 600}[r.IntN(3)])
		s := stratum(n + r.IntN(greatest))
		for range n {
			s.Values = append(s.Values, r.IntN(2*greatest)-greatest/2)
		}
		if strata.Check(list(s)) == api.OK {
			l = append(l, s)
		}
	}
	return l
}

// estimates returns the total of each stratum, and its variance, by the definitions.
func estimates(l []api.Stratum) (totals, variances []*big.Rat) {
	for _, s := range l {
		n := len(s.Values)
		mean := big.NewRat(int64(sum(s.Values)), int64(n))
		squares := whole(0)
		for _, value := range s.Values {
			difference := new(big.Rat).Sub(whole(value), mean)
			squares.Add(squares, difference.Mul(difference, difference))
		}
		totals = append(totals, new(big.Rat).Mul(mean, whole(s.Size)))
		variances = append(variances, squares.Mul(squares, big.NewRat(int64(s.Size*(s.Size-n)), int64(n*(n-1)))))
	}
	return totals, variances
}

func TestP22_2_TotalDefinition(t *testing.T) {
	r := rand.New(rand.NewPCG(22, 2))
	fine, good := 0, 0
	for range 3000 {
		l := random(r)
		totals, variances := estimates(l)
		total, e := added(totals)
		variance, f := added(variances)
		if e == api.OK {
			e = f
		}
		if e != api.OK {
			total, variance = api.Frac{}, api.Frac{}
			fine++
		} else {
			good++
		}
		if gotTotal, gotVariance, got := strata.Total(l); gotTotal != total || gotVariance != variance || got != e {
			t.Fatalf("Total(%v) is %v, %v, %d, want %v, %v, %d", l, gotTotal, gotVariance, got, total, variance, e)
		}
		if e != api.OK {
			continue
		}
		units := 0
		for _, s := range l {
			units += s.Size
		}
		mean, e := added([]*big.Rat{new(big.Rat).Quo(exact(total), whole(units))})
		if got, f := strata.Mean(l); got != mean || f != e {
			t.Fatalf("Mean(%v) is %v, %d, want %v, %d", l, got, f, mean, e)
		}
	}
	if fine < 300 || good < 1000 {
		t.Error("there are too few of a kind:", fine, good)
	}
}

func TestP22_3_Proportional(t *testing.T) {
	var none []int
	for i, c := range []struct {
		sizes []int
		n     int
		want  []int
		e     int
	}{
		{[]int{10, 4, 7}, 5, []int{2, 1, 2}, api.OK},
		{[]int{10, 4, 7}, 0, []int{0, 0, 0}, api.OK},
		{[]int{10, 4, 7}, 21, []int{10, 4, 7}, api.OK},
		{[]int{10, 4, 7}, 20, []int{9, 4, 7}, api.OK},     // 9 11/21, 3 17/21, 6 14/21
		{[]int{5, 5, 5, 5}, 2, []int{1, 1, 0, 0}, api.OK}, // equal remainders
		{[]int{5, 5, 5, 5}, 7, []int{2, 2, 2, 1}, api.OK},
		{[]int{1, 3, 3}, 1, []int{0, 1, 0}, api.OK}, // equal remainders behind a smaller one
		{[]int{7}, 5, []int{5}, api.OK},
		{[]int{1, million, 1}, 1, []int{0, 1, 0}, api.OK},
		{[]int{1, million, 1}, million + 1, []int{1, million - 1, 1}, api.OK},
		{same(million, 16), 16 * million, same(million, 16), api.OK},
		{same(million, 16), 16*million - 1, append(same(million, 15), million-1), api.OK},
		{same(1, 16), 3, append(same(1, 3), same(0, 13)...), api.OK},
		{nil, 0, none, api.ErrNone},
		{[]int{}, -1, none, api.ErrNone},
		{same(1, 17), 3, none, api.ErrLimit},
		{same(0, 17), -3, none, api.ErrLimit},
		{[]int{10, 0, 7}, 5, none, api.ErrRange},
		{[]int{10, 4, -7}, 5, none, api.ErrRange},
		{[]int{million + 1, 4, 7}, 5, none, api.ErrRange},
		{[]int{highest, highest, 4}, 2, none, api.ErrRange},
		{[]int{lowest, lowest, 4}, 2, none, api.ErrRange},
		{[]int{10, 4, 7}, -1, none, api.ErrRange},
		{[]int{10, 4, 7}, 22, none, api.ErrRange},
		{[]int{10, 4, 7}, lowest, none, api.ErrRange},
		{[]int{10, 4, 7}, highest, none, api.ErrRange},
	} {
		if got, e := strata.Proportional(c.sizes, c.n); !slices.Equal(got, c.want) || e != c.e {
			t.Errorf("%d: Proportional(%v, %d) is %v, %d, want %v, %d", i, c.sizes, c.n, got, e, c.want, c.e)
		}
	}
}

// sizesOf returns sizes of some strata up to a greatest one.
func sizesOf(r *rand.Rand, count, greatest int) []int {
	l := make([]int, count)
	for h := range l {
		l[h] = 1 + r.IntN(greatest)
	}
	return l
}

func TestP22_3_ProportionalDefinition(t *testing.T) {
	r := rand.New(rand.NewPCG(22, 3))
	ties := 0
	for range 20000 {
		sizes := sizesOf(r, 1+r.IntN(16), []int{2, 6, 50, million}[r.IntN(4)])
		total := sum(sizes)
		n := r.IntN(total + 1)
		want, rests, left := make([]int, len(sizes)), make([]*big.Rat, len(sizes)), n
		for h, size := range sizes {
			quota := new(big.Rat).Mul(whole(n), big.NewRat(int64(size), int64(total)))
			want[h] = int(new(big.Int).Div(quota.Num(), quota.Denom()).Int64())
			rests[h] = quota.Sub(quota, whole(want[h]))
			left -= want[h]
		}
		for h := range sizes {
			before := 0
			for g := range sizes {
				order := rests[g].Cmp(rests[h])
				if order > 0 || order == 0 && g < h {
					before++
				}
				if order == 0 && g < h && before == left {
					ties++
				}
			}
			if before < left {
				want[h]++
			}
		}
		if got := must(strata.Proportional(sizes, n)); !slices.Equal(got, want) {
			t.Fatalf("Proportional(%v, %d) is %v, want %v", sizes, n, got, want)
		}
	}
	if ties < 1000 {
		t.Error("there are only", ties, "equal remainders")
	}
}

func TestP22_4_Neyman(t *testing.T) {
	var none []int
	for i, c := range []struct {
		sizes, variances []int
		n                int
		want             []int
		e                int
	}{
		{[]int{10, 4}, []int{1, 25}, 6, []int{2, 4}, api.OK},
		{[]int{10, 4}, []int{1, 25}, 2, []int{1, 1}, api.OK},
		{[]int{10, 4}, []int{1, 25}, 3, []int{1, 2}, api.OK},
		{[]int{10, 4}, []int{1, 25}, 4, []int{1, 3}, api.OK},
		{[]int{10, 4}, []int{1, 25}, 5, []int{2, 3}, api.OK},
		{[]int{10, 4}, []int{1, 25}, 7, []int{3, 4}, api.OK}, // the second stratum has no more units
		{[]int{10, 4}, []int{1, 25}, 14, []int{10, 4}, api.OK},
		{[]int{10, 4}, []int{1, million}, 8, []int{4, 4}, api.OK},
		{[]int{5, 5, 5}, []int{2, 2, 2}, 5, []int{2, 2, 1}, api.OK}, // equal: the lowest
		{[]int{5, 5, 5}, []int{0, 0, 0}, 9, []int{5, 3, 1}, api.OK}, // nothing is to be gained
		{[]int{5, 5, 5}, []int{0, 2, 0}, 9, []int{3, 5, 1}, api.OK},
		{[]int{2, 1}, []int{3, 12}, 3, []int{2, 1}, api.OK}, // equal weights, and one has no more units
		{[]int{3, 1, 3}, []int{1, 9, 1}, 5, []int{2, 1, 2}, api.OK},
		{[]int{3, 3}, []int{1, 3}, 3, []int{1, 2}, api.OK},
		{[]int{3, 3}, []int{1, 3}, 4, []int{2, 2}, api.OK}, // 9/2 against 27/6: equal
		{[]int{1, 1, 1}, []int{5, 0, million}, 3, []int{1, 1, 1}, api.OK},
		{[]int{7}, []int{0}, 7, []int{7}, api.OK},
		{same(1000, 16), same(million, 16), 16000, same(1000, 16), api.OK},
		{same(1000, 16), same(million, 16), 15999, append(same(1000, 15), 999), api.OK},
		{nil, nil, 0, none, api.ErrNone},
		{nil, []int{1}, 1, none, api.ErrNone}, // before the number of variances
		{same(1, 17), same(1, 17), 17, none, api.ErrLimit},
		{same(0, 17), nil, 17, none, api.ErrLimit},
		{[]int{10, 4}, []int{1}, 6, none, api.ErrForm},
		{[]int{10, 4}, []int{1, 25, 1}, 6, none, api.ErrForm},
		{[]int{10, 0}, nil, -6, none, api.ErrForm}, // before the sizes and n
		{[]int{10, 0}, []int{1, 25}, 6, none, api.ErrRange},
		{[]int{1001, 4}, []int{1, 25}, 6, none, api.ErrRange},
		{[]int{10, -4}, []int{1, 25}, 6, none, api.ErrRange},
		{[]int{highest, highest}, []int{1, 25}, 6, none, api.ErrRange},
		{[]int{lowest, 4}, []int{1, 25}, 6, none, api.ErrRange},
		{[]int{10, 4}, []int{-1, 25}, 6, none, api.ErrRange},
		{[]int{10, 4}, []int{1, million + 1}, 6, none, api.ErrRange},
		{[]int{10, 4}, []int{lowest, highest}, 6, none, api.ErrRange},
		{[]int{10, 4}, []int{1, 25}, 1, none, api.ErrRange},
		{[]int{10, 4}, []int{1, 25}, 15, none, api.ErrRange},
		{[]int{10, 4}, []int{1, 25}, lowest, none, api.ErrRange},
		{[]int{10, 4}, []int{1, 25}, highest, none, api.ErrRange},
	} {
		if got, e := strata.Neyman(c.sizes, c.variances, c.n); !slices.Equal(got, c.want) || e != c.e {
			t.Errorf("%d: Neyman(%v, %v, %d) is %v, %d, want %v, %d", i, c.sizes, c.variances, c.n, got, e, c.want, c.e)
		}
	}
}

// gain is how much less the variance is with one more unit of a stratum.
type gain struct {
	stratum int
	value   *big.Rat
}

// gains returns what each unit of each stratum but its first one gains, the greatest first, of equal ones those of the lowest stratum.
func gains(sizes, variances []int) []gain {
	var l []gain
	for h, size := range sizes {
		for k := 1; k < size; k++ {
			l = append(l, gain{h, big.NewRat(int64(size*size*variances[h]), int64(k*(k+1)))})
		}
	}
	slices.SortStableFunc(l, func(a, b gain) int { return b.value.Cmp(a.value) })
	return l
}

func TestP22_4_NeymanDefinition(t *testing.T) {
	r := rand.New(rand.NewPCG(22, 4))
	full, ties := 0, 0
	for range 600 {
		sizes := sizesOf(r, 1+r.IntN(16), []int{3, 10, 100}[r.IntN(3)])
		if r.IntN(100) == 0 {
			sizes = sizesOf(r, 2, 1000)
		}
		variances := make([]int, len(sizes))
		for h := range variances {
			variances[h] = r.IntN([]int{3, 100, million + 1}[r.IntN(3)])
		}
		all := gains(sizes, variances)
		want, order := same(1, len(sizes)), []int{}
		for i, g := range all {
			order = append(order, g.stratum)
			if i > 0 && g.stratum != order[i-1] && g.value.Cmp(all[i-1].value) == 0 {
				ties++
			}
		}
		for n := len(sizes); n <= sum(sizes); n++ {
			if n > len(sizes) {
				want[order[n-len(sizes)-1]]++
			}
			if r.IntN(1+len(order)/20) > 0 {
				continue
			}
			got := must(strata.Neyman(sizes, variances, n))
			if !slices.Equal(got, want) {
				t.Fatalf("Neyman(%v, %v, %d) is %v, want %v", sizes, variances, n, got, want)
			}
			if h := slices.Index(got, slices.Max(got)); got[h] == sizes[h] && n < sum(sizes) {
				full++
			}
		}
	}
	if full < 300 || ties < 300 {
		t.Error("there are too few of a kind:", full, ties)
	}
}

func TestP22_5_Cost(t *testing.T) {
	none := frac(0, 0)
	primes := []int{997, 991, 983, 977, 971, 967}
	for i, c := range []struct {
		sizes, variances, share []int
		want                    api.Frac
		e                       int
	}{
		{[]int{10, 4}, []int{1, 25}, []int{2, 4}, frac(150, 1), api.OK},
		{[]int{10, 4}, []int{1, 25}, []int{3, 3}, frac(500, 3), api.OK},
		{[]int{10, 4}, []int{1, 25}, []int{1, 1}, frac(500, 1), api.OK},
		{[]int{10, 4}, []int{1, 25}, []int{10, 4}, frac(110, 1), api.OK},
		{[]int{10, 4}, []int{0, 0}, []int{3, 4}, frac(0, 1), api.OK},
		{[]int{7, 7}, []int{1, 2}, []int{3, 4}, frac(245, 6), api.OK},
		{[]int{1}, []int{5}, []int{1}, frac(5, 1), api.OK},
		{same(1000, 16), same(million, 16), same(1, 16), frac(16000000000000, 1), api.OK},
		{same(1000, 3), same(1, 3), primes[:3], frac(2942231000000, 971230541), api.OK},
		{same(1000, 6), same(million, 6), primes, none, api.ErrLimit},
		{nil, nil, nil, none, api.ErrNone},
		{nil, []int{1}, []int{1}, none, api.ErrNone},
		{same(1, 17), same(1, 17), same(1, 17), none, api.ErrLimit},
		{same(1, 17), nil, nil, none, api.ErrLimit},
		{[]int{10, 4}, []int{1}, []int{2, 4}, none, api.ErrForm},
		{[]int{10, 4}, []int{1, 25, 1}, []int{2, 4}, none, api.ErrForm},
		{[]int{10, 4}, []int{1, 25}, []int{2}, none, api.ErrForm},
		{[]int{10, 4}, []int{1, 25}, []int{2, 4, 1}, none, api.ErrForm},
		{[]int{10, 0}, []int{1, -1}, nil, none, api.ErrForm},    // before the sizes and variances
		{[]int{10, 0}, []int{1, -1, 1}, nil, none, api.ErrForm}, // before the sizes and variances
		{[]int{10, 0}, []int{1, 25}, []int{2, 4}, none, api.ErrRange},
		{[]int{10, 1001}, []int{1, 25}, []int{2, 4}, none, api.ErrRange},
		{[]int{10, lowest}, []int{1, 25}, []int{2, 4}, none, api.ErrRange},
		{[]int{10, highest}, []int{1, 25}, []int{2, 4}, none, api.ErrRange},
		{[]int{10, 4}, []int{-1, 25}, []int{2, 4}, none, api.ErrRange},
		{[]int{10, 4}, []int{1, million + 1}, []int{2, 4}, none, api.ErrRange},
		{[]int{10, 4}, []int{1, 25}, []int{0, 4}, none, api.ErrRange},
		{[]int{10, 4}, []int{1, 25}, []int{11, 4}, none, api.ErrRange},
		{[]int{10, 4}, []int{1, 25}, []int{2, 5}, none, api.ErrRange},
		{[]int{10, 4}, []int{1, 25}, []int{2, -4}, none, api.ErrRange},
		{[]int{10, 4}, []int{1, 25}, []int{lowest, highest}, none, api.ErrRange},
		{append(same(1000, 6), 5), same(million, 7), append(primes[:6:6], 6), none, api.ErrRange}, // before the limit of the sum
	} {
		if got, e := strata.Cost(c.sizes, c.variances, c.share); got != c.want || e != c.e {
			t.Errorf("%d: Cost(%v, %v, %v) is %v, %d, want %v, %d", i, c.sizes, c.variances, c.share, got, e, c.want, c.e)
		}
	}
}

func TestP22_5_CostDefinition(t *testing.T) {
	r := rand.New(rand.NewPCG(22, 5))
	fine, good := 0, 0
	for range 10000 {
		sizes := sizesOf(r, 1+r.IntN(16), []int{5, 100, 1000}[r.IntN(3)])
		var variances, share []int
		var terms []*big.Rat
		for _, size := range sizes {
			variance, part := r.IntN([]int{3, 1000, million + 1}[r.IntN(3)]), 1+r.IntN(size)
			variances, share = append(variances, variance), append(share, part)
			terms = append(terms, big.NewRat(int64(size*size*variance), int64(part)))
		}
		want, e := added(terms)
		if e == api.OK {
			good++
		} else {
			fine++
		}
		if got, f := strata.Cost(sizes, variances, share); got != want || f != e {
			t.Fatalf("Cost(%v, %v, %v) is %v, %d, want %v, %d", sizes, variances, share, got, f, want, e)
		}
	}
	if fine < 1000 || good < 1000 {
		t.Error("there are too few of a kind:", fine, good)
	}
}

func TestP22_6_Post(t *testing.T) {
	var none []api.Stratum
	for i, c := range []struct {
		sizes, labels, values []int
		want                  []api.Stratum
		e                     int
	}{
		{[]int{10, 4}, []int{0, 1, 0, 1, 0}, []int{1, 5, 2, 7, 4}, example(), api.OK},
		{[]int{10, 4}, []int{1, 1, 0, 0, 0}, []int{5, 7, 1, 2, 4}, example(), api.OK},
		{[]int{10, 4}, []int{1, 1, 0, 0, 0}, []int{7, 5, 4, 2, 1}, list(stratum(10, 4, 2, 1), stratum(4, 7, 5)), api.OK},
		{[]int{2}, []int{0, 0}, []int{-3, -3}, list(stratum(2, -3, -3)), api.OK},
		{same(2, 16), append(same(15, 2), []int{0, 1, 2, 3, 4, 5, 6, 7, 8, 9, 10, 11, 12, 13, 14, 14, 13, 12, 11, 10, 9, 8, 7, 6, 5, 4, 3, 2, 1, 0}...), same(1, 32), slices.Repeat(list(stratum(2, 1, 1)), 16), api.OK},
		{[]int{10, 4}, []int{0, 1, 0, 1}, []int{1, 5, 2}, none, api.ErrForm},
		{[]int{10, 4}, []int{0, 1, 0}, []int{1, 5, 2, 7}, none, api.ErrForm},
		{[]int{10, 4}, []int{9, -1, 0}, nil, none, api.ErrForm}, // before the labels
		{nil, []int{0}, nil, none, api.ErrForm},                 // before the number of strata
		{[]int{10, 4}, []int{0, 1, 2, 1, 0}, []int{1, 5, 2, 7, 4}, none, api.ErrRange},
		{[]int{10, 4}, []int{0, 1, 0, 1, -1}, []int{1, 5, 2, 7, 4}, none, api.ErrRange},
		{[]int{10, 4}, []int{highest, 1, 0, 1, 0}, []int{1, 5, 2, 7, 4}, none, api.ErrRange},
		{[]int{10, 4}, []int{0, lowest, 0, 1, 0}, []int{1, 5, 2, 7, 4}, none, api.ErrRange},
		{nil, []int{0}, []int{1}, none, api.ErrRange},                    // before the number of strata
		{same(10, 17), []int{17}, []int{1}, none, api.ErrRange},          // before the number of strata
		{[]int{10, 4}, []int{2}, []int{million + 1}, none, api.ErrRange}, // before the values
		{nil, nil, nil, none, api.ErrNone},
		{same(10, 17), nil, nil, none, api.ErrLimit},
		{same(10, 17), same(16, 3), []int{1, 2, 4}, none, api.ErrLimit},
		{[]int{10, 4}, nil, nil, none, api.ErrNone},
		{[]int{10, 4}, []int{0, 1, 0, 0}, []int{1, 5, 2, 4}, none, api.ErrNone}, // one value
		{[]int{10, 0}, []int{0, 0}, []int{1, 5}, none, api.ErrRange},            // no size
		{[]int{10, 2}, []int{0, 0, 1, 1, 1}, []int{1, 5, 2, 7, 4}, none, api.ErrRange},
		{[]int{lowest, highest}, []int{0, 0, 1, 1}, []int{1, 5, 2, 7}, none, api.ErrRange},
		{[]int{10, 4}, []int{0, 0, 1, 1}, []int{1, 5, 2, million + 1}, none, api.ErrLimit},
		{[]int{10, 4}, []int{0, 1, 1}, []int{million + 1, 5, 2}, none, api.ErrNone}, // the first stratum
	} {
		if got, e := strata.Post(c.sizes, c.labels, c.values); !equal(got, c.want) || e != c.e {
			t.Errorf("%d: Post(%v, %v, %v) is %v, %d, want %v, %d", i, c.sizes, c.labels, c.values, got, e, c.want, c.e)
		}
	}
}

func TestP22_6_PostDefinition(t *testing.T) {
	r := rand.New(rand.NewPCG(22, 6))
	errors := map[int]int{}
	for range 10000 {
		sizes := sizesOf(r, 1+r.IntN(5), 8)
		var labels, values []int
		parts := make([]api.Stratum, len(sizes))
		for range r.IntN(40) {
			h := r.IntN(len(sizes))
			labels, values = append(labels, h), append(values, r.IntN(100))
		}
		for h, size := range sizes {
			parts[h].Size = size
			for i, label := range labels {
				if label == h {
					parts[h].Values = append(parts[h].Values, values[i])
				}
			}
		}
		e := strata.Check(parts)
		if e != api.OK {
			parts = nil
		}
		errors[e]++
		if got, f := strata.Post(sizes, labels, values); !equal(got, parts) || f != e {
			t.Fatalf("Post(%v, %v, %v) is %v, %d, want %v, %d", sizes, labels, values, got, f, parts, e)
		}
	}
	if errors[api.OK] < 300 || errors[api.ErrNone] < 300 || errors[api.ErrRange] < 300 {
		t.Error("there are too few of a kind:", errors)
	}
}

func TestP22_7_ProportionalShares(t *testing.T) {
	r := rand.New(rand.NewPCG(22, 7))
	for range 20000 {
		sizes := sizesOf(r, 1+r.IntN(16), []int{2, 50, million}[r.IntN(3)])
		total := sum(sizes)
		n := r.IntN(total + 1)
		shares := must(strata.Proportional(sizes, n))
		if sum(shares) != n {
			t.Fatalf("Proportional(%v, %d) adds up to %d", sizes, n, sum(shares))
		}
		for h, share := range shares {
			off := new(big.Rat).Sub(whole(share), new(big.Rat).Mul(whole(n), big.NewRat(int64(sizes[h]), int64(total))))
			if share > sizes[h] || off.Abs(off).Cmp(whole(1)) >= 0 {
				t.Fatalf("Proportional(%v, %d) is %v", sizes, n, shares)
			}
		}
	}
}

// shares calls a function for all shares of n units, from 1 to the sizes.
func shares(sizes []int, n int, f func(share []int)) {
	var next func(share []int, left int)
	next = func(share []int, left int) {
		h := len(share)
		if h == len(sizes) {
			if left == 0 {
				f(share)
			}
			return
		}
		for x := 1; x <= min(sizes[h], left); x++ {
			next(append(share, x), left-x)
		}
	}
	next(nil, n)
}

func TestP22_7_NoShareIsBetterThanNeyman(t *testing.T) {
	r := rand.New(rand.NewPCG(22, 8))
	others := 0
	for range 400 {
		sizes := sizesOf(r, 1+r.IntN(4), 8)
		variances := make([]int, len(sizes))
		for h := range variances {
			variances[h] = r.IntN([]int{3, 100, million + 1}[r.IntN(3)])
		}
		for n := len(sizes); n <= sum(sizes); n++ {
			best := must(strata.Neyman(sizes, variances, n))
			least := must(strata.Cost(sizes, variances, best))
			if sum(best) != n {
				t.Fatalf("Neyman(%v, %v, %d) adds up to %d", sizes, variances, n, sum(best))
			}
			shares(sizes, n, func(share []int) {
				cost := must(strata.Cost(sizes, variances, share))
				if exact(cost).Cmp(exact(least)) < 0 {
					t.Fatalf("Neyman(%v, %v, %d) is %v, and %v costs less", sizes, variances, n, best, share)
				}
				others++
			})
		}
	}
	if others < 50000 {
		t.Error("there are only", others, "shares")
	}
}

// samples calls a function for all ways to draw n of some values.
func samples(values []int, n int, f func(sample []int)) {
	for mask := range 1 << len(values) {
		var sample []int
		for i, value := range values {
			if mask>>i&1 == 1 {
				sample = append(sample, value)
			}
		}
		if len(sample) == n {
			f(sample)
		}
	}
}

// draws calls a function for all stratified samples, with a number of units of each stratum.
func draws(population [][]int, share []int, f func(l []api.Stratum)) {
	var next func(l []api.Stratum)
	next = func(l []api.Stratum) {
		h := len(l)
		if h == len(population) {
			f(l)
			return
		}
		samples(population[h], share[h], func(sample []int) {
			next(append(l[:h:h], stratum(len(population[h]), sample...)))
		})
	}
	next(nil)
}

func TestP22_7_TotalIsUnbiased(t *testing.T) {
	checkUnbiased(t, 9, func(count int, totals, _ *big.Rat, truth int) {
		if mean := totals.Quo(totals, whole(count)); mean.Cmp(whole(truth)) != 0 {
			t.Fatalf("the mean of the estimates is %v, the total %d", mean, truth)
		}
	})
}

// checkUnbiased calls a function for populations, with the number of their samples, the sum of the estimated totals, the sum of the estimated variances minus the squares of the differences from the total, and the total.
func checkUnbiased(t *testing.T, seed uint64, f func(count int, totals, excess *big.Rat, truth int)) {
	t.Helper()
	r := rand.New(rand.NewPCG(22, seed))
	for range 200 {
		var population [][]int
		var share []int
		truth := 0
		for range 1 + r.IntN(3) {
			values := make([]int, 2+r.IntN(4))
			for i := range values {
				values[i] = r.IntN(100) - 30
			}
			truth += sum(values)
			population, share = append(population, values), append(share, 2+r.IntN(len(values)-1))
		}
		count, totals, excess := 0, whole(0), whole(0)
		draws(population, share, func(l []api.Stratum) {
			total, variance, e := strata.Total(l)
			if e != api.OK {
				t.Fatal("Total returns the error", e)
			}
			count++
			totals.Add(totals, exact(total))
			difference := new(big.Rat).Sub(exact(total), whole(truth))
			excess.Add(excess, exact(variance)).Sub(excess, difference.Mul(difference, difference))
		})
		f(count, totals, excess, truth)
	}
}

// TestP3_VarianceIsUnbiased compares the mean of the estimated variances with the variance of the estimated totals.
func TestP3_VarianceIsUnbiased(t *testing.T) {
	several := 0
	checkUnbiased(t, 10, func(count int, _, excess *big.Rat, _ int) {
		if excess.Sign() != 0 {
			t.Fatalf("the estimated variances exceed the squared differences by %v", excess)
		}
		if count > 20 {
			several++
		}
	})
	if several < 20 {
		t.Error("only", several, "populations have many samples")
	}
}

func TestP22_5_CostIsTheVarianceButForAConstant(t *testing.T) {
	// Lists of values whose variances are integers.
	lists := [][]int{{1, 3}, {0, 3, 6}, {3, 6, 9, 12}, {7, 7, 7}, {0, 0, 0, 10}, {0, 0, 0, 7, 0, 0, 0}}
	variances := []int{2, 9, 15, 0, 25, 7}
	for i, first := range lists {
		for j, second := range lists {
			for a := 2; a <= len(first); a++ {
				for b := 2; b <= len(second); b++ {
					sizes, share := []int{len(first), len(second)}, []int{a, b}
					cost := exact(must(strata.Cost(sizes, []int{variances[i], variances[j]}, share)))
					cost.Sub(cost, whole(sizes[0]*variances[i]+sizes[1]*variances[j]))
					truth, squares, count := sum(first)+sum(second), whole(0), 0
					draws([][]int{first, second}, share, func(l []api.Stratum) {
						total, _, _ := strata.Total(l)
						difference := new(big.Rat).Sub(exact(total), whole(truth))
						squares.Add(squares, difference.Mul(difference, difference))
						count++
					})
					if squares.Quo(squares, whole(count)).Cmp(cost) != 0 {
						t.Fatalf("%d of %v and %d of %v have the variance %v, and Cost tells %v", a, first, b, second, squares, cost)
					}
				}
			}
		}
	}
}
