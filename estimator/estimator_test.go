package estimator_test

import (
	"math/big"
	"math/rand/v2"
	"reflect"
	"slices"
	"testing"

	"coupe/api"
	"coupe/estimator"
	"coupe/fraction"
	"coupe/frame"
)

const (
	lowest  = -1 << 63
	highest = 1<<63 - 1
	limit   = api.MaxFrac
	million = 1000000
	prime   = 99999989 // the squares of primes like these two are above limit
	other   = 99999971
	root    = 31622743 // the square of this prime is below limit
)

func frac(num, den int) api.Frac {
	return api.Frac{Num: num, Den: den}
}

// list returns fractions, each with its numerator before its denominator.
func list(numbers ...int) []api.Frac {
	var l []api.Frac
	for pair := range slices.Chunk(numbers, 2) {
		l = append(l, frac(pair[0], pair[1]))
	}
	return l
}

// table returns the rows of a square table of fractions.
func table(l []api.Frac) [][]api.Frac {
	size := 1
	for size*size < len(l) {
		size++
	}
	return slices.Collect(slices.Chunk(l, size))
}

// draw returns a sample with its probability.
func draw(p api.Frac, units ...int) api.Draw {
	return api.Draw{Units: units, P: p}
}

func design(units int, draws ...api.Draw) api.Design {
	return api.Design{Units: units, Draws: draws}
}

// must returns a result that has no error.
func must[T any](result T, e int) T {
	if e != api.OK {
		panic(e)
	}
	return result
}

// same returns as many equal values as one wants.
func same(value, count int) []int {
	return slices.Repeat([]int{value}, count)
}

// exact returns a fraction for exact calculations.
func exact(f api.Frac) *big.Rat {
	return big.NewRat(int64(f.Num), int64(f.Den))
}

// whole returns a number for exact calculations.
func whole(n int) *big.Rat {
	return big.NewRat(int64(n), 1)
}

// rounded returns an exact number as a fraction: ErrLimit.
func rounded(x *big.Rat) (api.Frac, int) {
	bound := big.NewInt(limit)
	if x.Num().CmpAbs(bound) > 0 || x.Denom().Cmp(bound) > 0 {
		return api.Frac{}, api.ErrLimit
	}
	return frac(int(x.Num().Int64()), int(x.Denom().Int64())), api.OK
}

// paper is a calculation with exact numbers, which knows whether one of them was too large for a fraction.
type paper struct {
	beyond bool
}

func (c *paper) note(x *big.Rat) *big.Rat {
	_, e := rounded(x)
	c.beyond = c.beyond || e != api.OK
	return x
}

func (c *paper) add(x, y *big.Rat) *big.Rat { return c.note(new(big.Rat).Add(x, y)) }
func (c *paper) sub(x, y *big.Rat) *big.Rat { return c.note(new(big.Rat).Sub(x, y)) }
func (c *paper) mul(x, y *big.Rat) *big.Rat { return c.note(new(big.Rat).Mul(x, y)) }
func (c *paper) quo(x, y *big.Rat) *big.Rat { return c.note(new(big.Rat).Quo(x, y)) }

// result returns a number of a calculation as a fraction: ErrLimit.
func (c *paper) result(x *big.Rat) (api.Frac, int) {
	if c.beyond {
		return api.Frac{}, api.ErrLimit
	}
	return rounded(x)
}

// weighted is the estimator of Horvitz and Thompson.
func (c *paper) weighted(values []int, p []api.Frac) *big.Rat {
	total := whole(0)
	for i, y := range values {
		total = c.add(total, c.quo(whole(y), exact(p[i])))
	}
	return total
}

// spread is the estimator of its variance.
func (c *paper) spread(values []int, joint [][]api.Frac) *big.Rat {
	total := whole(0)
	for i := range values {
		for j := range values {
			p, a, b := exact(joint[i][j]), exact(joint[i][i]), exact(joint[j][j])
			share := c.quo(c.sub(p, c.mul(a, b)), p)
			square := c.mul(c.quo(whole(values[i]), a), c.quo(whole(values[j]), b))
			total = c.add(total, c.mul(share, square))
		}
	}
	return total
}

// chance is the probability that the sample has all of some units.
func (c *paper) chance(d api.Design, units ...int) api.Frac {
	sum := whole(0)
	for _, x := range d.Draws {
		if !slices.ContainsFunc(units, func(unit int) bool { return !slices.Contains(x.Units, unit) }) {
			sum = c.add(sum, exact(x.P))
		}
	}
	p, _ := rounded(sum)
	return p
}

// average is the sum of a figure of all samples, each times its probability.
func (c *paper) average(d api.Design, figure func(units []int) *big.Rat) *big.Rat {
	sum := whole(0)
	for _, x := range d.Draws {
		sum = c.add(sum, c.mul(exact(x.P), figure(x.Units)))
	}
	return sum
}

// members returns the units whose bits a number has, ascending.
func members(mask int) []int {
	var units []int
	for unit := range 16 {
		if mask>>unit&1 == 1 {
			units = append(units, unit)
		}
	}
	return units
}

// random returns a valid design with as many different samples as one wants, with weights up to a greatest one.
func random(r *rand.Rand, units, draws, greatest int) api.Design {
	d := api.Design{Units: units}
	masks := r.Perm(1 << units)
	total := 0
	var weights []int
	for range min(draws, len(masks)) {
		weight := 1 + r.IntN(greatest)
		weights, total = append(weights, weight), total+weight
	}
	for i, weight := range weights {
		d.Draws = append(d.Draws, draw(must(fraction.New(weight, total)), members(masks[i])...))
	}
	return d
}

// designs calls a function for many valid designs, some of which leave out units.
func designs(seed uint64, f func(d api.Design)) {
	for n := 1; n <= 6; n++ {
		for k := 0; k <= n; k++ {
			f(must(frame.Simple(n, k)))
			if k > 0 {
				f(must(frame.Systematic(n, k)))
			}
		}
	}
	f(must(frame.Simple(10, 5)))
	f(must(frame.Systematic(10, 3)))
	f(must(frame.Independent(slices.Repeat(list(1, 2), 8))))
	f(must(frame.Independent(list(1, 3, 2, 5, 1, 1, 1, 7))))
	f(must(frame.Join(must(frame.Simple(4, 2)), must(frame.Systematic(5, 2)))))
	r := rand.New(rand.NewPCG(19, seed))
	for range 300 {
		f(random(r, 1+r.IntN(5), 1+r.IntN(20), 1+r.IntN(9)))
	}
}

// complete reports whether each unit is in some sample, and whether each pair of units is.
func complete(d api.Design) (units, pairs bool) {
	units, pairs = true, true
	for i, row := range must(frame.Joint(d)) {
		units = units && row[i].Num > 0
		pairs = pairs && !slices.Contains(row, frac(0, 1))
	}
	return units, pairs
}

// numbers returns random values up to a magnitude.
func numbers(r *rand.Rand, count, greatest int) []int {
	l := make([]int, count)
	for i := range l {
		l[i] = r.IntN(2*greatest+1) - greatest
	}
	return l
}

// answer is a result with its error.
type answer struct {
	f api.Frac
	e int
}

// gives makes an answer of the two results of a call.
func gives(f api.Frac, e int) answer {
	return answer{f, e}
}

// fine is an answer without an error.
func fine(num, den int) answer {
	return answer{frac(num, den), api.OK}
}

// wrong is an answer with an error.
func wrong(e int) answer {
	return answer{e: e}
}

// overDesigns returns the answers of Expected, Deviation and ExpectedSpread.
func overDesigns(d api.Design, values []int) [3]answer {
	return [3]answer{
		gives(estimator.Expected(d, values)),
		gives(estimator.Deviation(d, values)),
		gives(estimator.ExpectedSpread(d, values)),
	}
}

// answers returns the answers of all functions; the two of Total have one error.
func answers(size int, y, x []int, p []api.Frac, joint [][]api.Frac, d api.Design) []answer {
	total, spread, e := estimator.Total(size, y)
	l := overDesigns(d, y)
	return append(l[:], answer{total, e}, answer{spread, e},
		gives(estimator.Mean(y)), gives(estimator.Variance(y)), gives(estimator.Ratio(y, x)),
		gives(estimator.Weighted(y, p)), gives(estimator.Spread(y, joint)))
}

// checkAnswers finds that there is nothing beside an error, and that a result is a valid fraction.
func checkAnswers(t *testing.T, l []answer) {
	t.Helper()
	for i, x := range l {
		if x.e != api.OK && x.f != (api.Frac{}) || x.e == api.OK && fraction.Check(x.f) != api.OK {
			t.Error("answer", i, "is", x)
		}
	}
}

// TestP1_AnyArguments calls all functions with arguments of any form: none panics, and beside an error there is nothing else.
func TestP1_AnyArguments(t *testing.T) {
	kinds := []int{lowest, lowest + 1, -million - 1, -million, -2, -1, 0, 1, 2, 3, 7, 11, million, million + 1, prime, limit, limit + 1, highest - 1, highest}
	r := rand.New(rand.NewPCG(19, 1))
	pick := func() int { return kinds[r.IntN(len(kinds))] }
	values := func() []int {
		l := make([]int, r.IntN(5))
		for i := range l {
			l[i] = pick()
			if r.IntN(2) == 0 {
				l[i] = r.IntN(9) - 4
			}
		}
		return l
	}
	chances := func(count int) []api.Frac {
		l := make([]api.Frac, count)
		for i := range l {
			l[i] = frac(pick(), pick())
			if r.IntN(3) > 0 {
				l[i] = must(fraction.New(1, 1+r.IntN(4)))
			}
		}
		return l
	}
	fixed := []api.Design{{}, must(frame.Simple(3, 2)), must(frame.Simple(4, 1)), must(frame.Independent(list(1, 2, 1, 3))), design(1, draw(frac(1, 1)))}
	wild := func() api.Design {
		d := api.Design{Units: pick()}
		for range r.IntN(4) {
			d.Draws = append(d.Draws, draw(frac(pick(), pick()), values()...))
		}
		return d
	}
	for range 30000 {
		y := values()
		joint := make([][]api.Frac, r.IntN(5))
		for i := range joint {
			joint[i] = chances(len(joint) + r.IntN(9)/8)
		}
		for _, d := range []api.Design{fixed[r.IntN(len(fixed))], wild()} {
			checkAnswers(t, answers(pick(), y, values(), chances(r.IntN(5)), joint, d))
		}
	}
	huge := make([]int, 1<<16)
	none := make([]api.Frac, 1<<16)
	for _, d := range []api.Design{{}, fixed[1], design(10, make([]api.Draw, 1<<16)...)} {
		checkAnswers(t, answers(highest, huge, huge, none, make([][]api.Frac, 1<<16), d))
		checkAnswers(t, answers(lowest, nil, nil, nil, nil, d))
	}
}

// roomy returns a list with space behind it, in which something stands.
func roomy[T any](l []T, spare T) []T {
	return append(append(make([]T, 0, len(l)+3), l...), spare, spare, spare)[:len(l)]
}

// memory returns a copy of all memory of a list.
func memory[T any](l []T) []T {
	return slices.Clone(l[:cap(l)])
}

func TestP19_6_ArgumentsAreKept(t *testing.T) {
	y, x, p := roomy([]int{5, -3, 2}, 77), roomy([]int{1, 2, 4}, 77), roomy(list(1, 2, 1, 3, 1, 1), frac(7, 7))
	joint := roomy(table(list(1, 2, 1, 6, 1, 2, 1, 6, 1, 3, 1, 3, 1, 2, 1, 3, 1, 1)), nil)
	d := must(frame.Simple(3, 2))
	d.Draws = roomy(d.Draws, draw(frac(7, 7), 7))
	for i := range d.Draws {
		d.Draws[i].Units = roomy(d.Draws[i].Units, 77)
	}
	for i := range joint {
		joint[i] = roomy(joint[i], frac(7, 7))
	}
	all := func() (copies []any) {
		copies = append(copies, memory(y), memory(x), memory(p), memory(joint), memory(d.Draws))
		for i, row := range joint {
			copies = append(copies, memory(row), memory(d.Draws[i].Units))
		}
		return copies
	}
	kept := all()
	first := answers(9, y, x, p, joint, d)
	for i, a := range first {
		if a.e != api.OK {
			t.Error(i, a)
		}
	}
	if !reflect.DeepEqual(kept, all()) {
		t.Error("arguments were changed")
	}
	if again := answers(9, y, x, p, joint, d); !slices.Equal(first, again) {
		t.Error(first, again)
	}
}

// tooGreat are lists of values that are not permitted.
func tooGreat() [][]int {
	return [][]int{
		{million + 1, 0}, {0, -million - 1}, {1, 2, 3, highest}, {lowest, 1}, {lowest, lowest, lowest},
		same(0, 1001), same(1, 1<<16), append(same(1, 1000), million+1),
	}
}

func TestP19_1_Mean(t *testing.T) {
	for i, x := range []struct {
		values []int
		want   answer
	}{
		{[]int{1, 2, 4}, fine(7, 3)},
		{[]int{5}, fine(5, 1)},
		{[]int{0}, fine(0, 1)},
		{[]int{3, -3}, fine(0, 1)},
		{[]int{2, 4}, fine(3, 1)},
		{[]int{-1, -2}, fine(-3, 2)},
		{[]int{million}, fine(million, 1)},
		{[]int{-million}, fine(-million, 1)},
		{same(million, 1000), fine(million, 1)},
		{append(same(-million, 999), 1-million), fine(1-1000*million, 1000)},
		{nil, wrong(api.ErrNone)},
		{[]int{}, wrong(api.ErrNone)},
	} {
		if a := gives(estimator.Mean(x.values)); a != x.want {
			t.Error(i, a)
		}
	}
	for i, values := range append(tooGreat(), []int{million + 1}, []int{-million - 1}) {
		if a := gives(estimator.Mean(values)); a != wrong(api.ErrLimit) {
			t.Error(i, a)
		}
	}
}

// uneven returns 100 values whose variance has a numerator above limit.
func uneven() []int {
	return append(append(same(million, 50), same(-million, 49)...), 1)
}

func TestP19_1_Variance(t *testing.T) {
	for i, x := range []struct {
		values []int
		want   answer
	}{
		{[]int{1, 2, 4}, fine(7, 3)},
		{[]int{5, 5}, fine(0, 1)},
		{[]int{0, 1}, fine(1, 2)},
		{[]int{1, 2, 3}, fine(1, 1)},
		{[]int{-1, 1}, fine(2, 1)},
		{[]int{-5, 0, 5, 10}, fine(125, 3)},
		{[]int{million, -million}, fine(2*million*million, 1)},
		{same(million, 1000), fine(0, 1)},
		{append(same(million, 500), same(-million, 500)...), fine(1000*million*million, 999)},
		{append(same(million, 50), same(-million, 50)...), fine(100*million*million, 99)},
		{uneven(), wrong(api.ErrLimit)},
		{nil, wrong(api.ErrNone)},
		{[]int{}, wrong(api.ErrNone)},
		{[]int{5}, wrong(api.ErrNone)},
		// The number of values before the values.
		{[]int{million + 1}, wrong(api.ErrNone)},
		{[]int{lowest}, wrong(api.ErrNone)},
	} {
		if a := gives(estimator.Variance(x.values)); a != x.want {
			t.Error(i, a)
		}
	}
	for i, values := range tooGreat() {
		if a := gives(estimator.Variance(values)); a != wrong(api.ErrLimit) {
			t.Error(i, a)
		}
	}
}

// squared returns the mean of values, and the sum of their squared differences from it, divided by a number.
func squared(values []int, divisor int) (mean, variance *big.Rat) {
	mean, variance = whole(0), whole(0)
	for _, y := range values {
		mean.Add(mean, big.NewRat(int64(y), int64(len(values))))
	}
	for _, y := range values {
		difference := new(big.Rat).Sub(whole(y), mean)
		variance.Add(variance, difference.Mul(difference, difference))
	}
	return mean, variance.Quo(variance, whole(divisor))
}

// TestP19_1_Definition compares with exact sums of squared differences, also where they are too fine.
func TestP19_1_Definition(t *testing.T) {
	r := rand.New(rand.NewPCG(19, 2))
	found := map[int]int{}
	for range 5000 {
		values := numbers(r, 2+r.IntN([]int{5, 60, 999}[r.IntN(3)]), []int{1, 10000, million, million}[r.IntN(4)])
		mean, variance := squared(values, len(values)-1)
		if a := gives(estimator.Mean(values)); a != gives(rounded(mean)) || a.e != api.OK {
			t.Fatal(values, a, mean)
		}
		a := gives(estimator.Variance(values))
		if a != gives(rounded(variance)) {
			t.Fatal(values, a, variance)
		}
		found[a.e]++
	}
	if found[api.OK] < 500 || found[api.ErrLimit] < 500 {
		t.Error("too few lists of a kind", found)
	}
}

func TestP19_2_Total(t *testing.T) {
	for i, x := range []struct {
		size          int
		values        []int
		total, spread api.Frac
		e             int
	}{
		{10, []int{1, 2, 4}, frac(70, 3), frac(490, 9), api.OK},
		{3, []int{1, 2, 4}, frac(7, 1), frac(0, 1), api.OK},
		{2, []int{5, 5}, frac(10, 1), frac(0, 1), api.OK},
		{3, []int{0, 1}, frac(3, 2), frac(3, 4), api.OK},
		{million, []int{-1, 1}, frac(0, 1), frac(million*(million-2), 1), api.OK},
		{million, []int{7, 7}, frac(7*million, 1), frac(0, 1), api.OK},
		{million, same(million, 1000), frac(million*million, 1), frac(0, 1), api.OK},
		{million, same(-million, 1000), frac(-million*million, 1), frac(0, 1), api.OK},
		{1000, append(same(0, 999), 1), frac(1, 1), frac(0, 1), api.OK},
		// The size, before the values.
		{0, []int{1, 2, 4}, api.Frac{}, api.Frac{}, api.ErrRange},
		{-1, []int{1, 2, 4}, api.Frac{}, api.Frac{}, api.ErrRange},
		{2, []int{1, 2, 4}, api.Frac{}, api.Frac{}, api.ErrRange},
		{million + 1, []int{1, 2, 4}, api.Frac{}, api.Frac{}, api.ErrRange},
		{lowest, []int{1, 2, 4}, api.Frac{}, api.Frac{}, api.ErrRange},
		{highest, []int{1, 2, 4}, api.Frac{}, api.Frac{}, api.ErrRange},
		{0, nil, api.Frac{}, api.Frac{}, api.ErrRange},
		{-1, nil, api.Frac{}, api.Frac{}, api.ErrRange},
		{million + 1, nil, api.Frac{}, api.Frac{}, api.ErrRange},
		{0, []int{5}, api.Frac{}, api.Frac{}, api.ErrRange},
		{1000, same(1, 1001), api.Frac{}, api.Frac{}, api.ErrRange},
		{1, []int{lowest, lowest}, api.Frac{}, api.Frac{}, api.ErrRange},
		{million + 1, []int{lowest, lowest}, api.Frac{}, api.Frac{}, api.ErrRange},
		// Then the errors of Variance.
		{1, nil, api.Frac{}, api.Frac{}, api.ErrNone},
		{million, nil, api.Frac{}, api.Frac{}, api.ErrNone},
		{1, []int{5}, api.Frac{}, api.Frac{}, api.ErrNone},
		{9, []int{lowest}, api.Frac{}, api.Frac{}, api.ErrNone},
		{1001, same(1, 1001), api.Frac{}, api.Frac{}, api.ErrLimit},
		{2, []int{million + 1, 0}, api.Frac{}, api.Frac{}, api.ErrLimit},
		{2, []int{0, -million - 1}, api.Frac{}, api.Frac{}, api.ErrLimit},
		{100, uneven(), api.Frac{}, api.Frac{}, api.ErrLimit},
		// Only the last product is too large.
		{million, []int{-million, million}, api.Frac{}, api.Frac{}, api.ErrLimit},
		{33, []int{-million, million}, frac(0, 1), frac(1023*million*million, 1), api.ErrLimit},
		{32, []int{-million, million}, frac(0, 1), frac(960*million*million, 1), api.OK},
	} {
		total, spread, e := estimator.Total(x.size, x.values)
		if x.e != api.OK {
			x.total, x.spread = api.Frac{}, api.Frac{}
		}
		if total != x.total || spread != x.spread || e != x.e {
			t.Error(i, total, spread, e)
		}
	}
}

// TestP19_2_Definition compares with exact products.
func TestP19_2_Definition(t *testing.T) {
	r := rand.New(rand.NewPCG(19, 3))
	found, last := map[int]int{}, 0
	for range 5000 {
		n := 2 + r.IntN([]int{1, 5, 60, 999}[r.IntN(4)])
		values := numbers(r, n, []int{1, 9, 10000, million}[r.IntN(4)])
		size := n + r.IntN([]int{1, 9, 1000, million - n + 1}[r.IntN(4)])
		mean, variance := squared(values, n-1)
		var c paper
		c.note(variance)
		before := c.beyond
		total := c.mul(whole(size), mean)
		spread := c.mul(variance, big.NewRat(int64(size*(size-n)), int64(n)))
		wantTotal, f := c.result(total)
		wantSpread, _ := c.result(spread)
		if c.beyond && !before {
			last++
		}
		found[f]++
		if a, b, e := estimator.Total(size, values); a != wantTotal || b != wantSpread || e != f {
			t.Fatal(size, values, a, b, e, total, spread, f)
		}
	}
	if found[api.OK] < 500 || found[api.ErrLimit] < 500 || last < 100 {
		t.Error("too few lists of a kind", found, last)
	}
}

func TestP19_3_Weighted(t *testing.T) {
	for i, x := range []struct {
		values []int
		p      []api.Frac
		want   answer
	}{
		{[]int{1, 3}, list(1, 2, 3, 4), fine(6, 1)},
		{nil, nil, fine(0, 1)},
		{[]int{}, []api.Frac{}, fine(0, 1)},
		{[]int{5}, list(1, 1), fine(5, 1)},
		{[]int{-5}, list(2, 3), fine(-15, 2)},
		{[]int{0, 0}, list(1, 3, 1, limit), fine(0, 1)},
		{[]int{1, -1}, list(1, 2, 1, 2), fine(0, 1)},
		{[]int{1}, list(1, limit), fine(limit, 1)},
		{[]int{-1}, list(1, limit), fine(-limit, 1)},
		{[]int{million}, list(1, limit/million), fine(limit, 1)},
		{[]int{1}, list(limit-1, limit), fine(limit, limit-1)},
		{same(million, 1000), slices.Repeat(list(1, million), 1000), fine(limit, 1)},
		// As many probabilities as values, before everything else.
		{nil, list(1, 2), wrong(api.ErrForm)},
		{[]int{1}, nil, wrong(api.ErrForm)},
		{[]int{1, 2}, list(1, 2), wrong(api.ErrForm)},
		{[]int{1, 2}, list(1, 2, 1, 2, 1, 2), wrong(api.ErrForm)},
		{[]int{lowest, 2}, list(1, 2), wrong(api.ErrForm)},
		{same(1, 1001), slices.Repeat(list(1, 2), 1000), wrong(api.ErrForm)},
		{[]int{1}, list(0, 1, 1, 2), wrong(api.ErrForm)},
		// The values, before the probabilities.
		{[]int{million + 1}, list(1, 2), wrong(api.ErrLimit)},
		{[]int{-million - 1}, list(1, 2), wrong(api.ErrLimit)},
		{[]int{lowest}, list(0, 1), wrong(api.ErrLimit)},
		{[]int{1, highest}, list(2, 4, 1, 2), wrong(api.ErrLimit)},
		{same(1, 1001), slices.Repeat(list(1, 2), 1001), wrong(api.ErrLimit)},
		{same(1, 1001), make([]api.Frac, 1001), wrong(api.ErrLimit)},
		// The first probability that has an error.
		{[]int{1}, make([]api.Frac, 1), wrong(api.ErrForm)},
		{[]int{1}, list(2, 4), wrong(api.ErrForm)},
		{[]int{1}, list(1, -2), wrong(api.ErrForm)},
		{[]int{1}, list(3, 3), wrong(api.ErrForm)},
		{[]int{1}, list(0, 2), wrong(api.ErrForm)},
		{[]int{0}, list(1, limit+1), wrong(api.ErrLimit)},
		{[]int{0}, list(lowest, 1), wrong(api.ErrLimit)},
		{[]int{1}, list(0, 1), wrong(api.ErrRange)},
		{[]int{1}, list(-1, 2), wrong(api.ErrRange)},
		{[]int{1}, list(3, 2), wrong(api.ErrRange)},
		{[]int{1}, list(2, 1), wrong(api.ErrRange)},
		{[]int{1}, list(limit, limit-1), wrong(api.ErrRange)},
		{[]int{0, 0, 0}, list(1, 2, 2, 1, 2, 4), wrong(api.ErrRange)},
		{[]int{0, 0, 0}, list(1, 2, 2, 4, 2, 1), wrong(api.ErrForm)},
		{[]int{0, 0, 0}, list(1, 2, 1, limit+1, 0, 1), wrong(api.ErrLimit)},
		{[]int{0, 0, 0}, list(1, 1, 1, 1, 0, 1), wrong(api.ErrRange)},
		// Probabilities before numbers that become too large.
		{[]int{2, 1}, list(1, limit, 0, 1), wrong(api.ErrRange)},
		{[]int{2, 1}, list(1, limit, 2, 4), wrong(api.ErrForm)},
		{[]int{1, 1, 1}, list(prime, limit, other, limit, 0, 1), wrong(api.ErrRange)},
		// Numbers that become too large: quotients, and sums on the way.
		{[]int{2}, list(1, limit), wrong(api.ErrLimit)},
		{[]int{-2}, list(1, limit), wrong(api.ErrLimit)},
		{[]int{2}, list(limit-1, limit), wrong(api.ErrLimit)},
		{[]int{1, 1}, list(1, limit, 1, 1), wrong(api.ErrLimit)},
		{[]int{-1, 1}, list(1, limit, 1, 1), fine(1-limit, 1)},
		{[]int{1, 1, -1}, list(1, limit, 1, 1, 1, 1), wrong(api.ErrLimit)},
		{[]int{1, -1, 1}, list(1, limit, 1, 1, 1, 1), fine(limit, 1)},
		{[]int{1, 1}, list(prime, prime+1, other, other+1), wrong(api.ErrLimit)},
		{append(same(million, 1000), 1)[1:], append(slices.Repeat(list(1, million), 999), frac(1, limit/1000)), fine(limit, 1)},
	} {
		if a := gives(estimator.Weighted(x.values, x.p)); a != x.want {
			t.Error(i, a)
		}
	}
}

// chances returns probabilities whose denominators are up to a greatest one, some of them equal.
func chances(r *rand.Rand, count, greatest int) []api.Frac {
	var l []api.Frac
	for range count {
		den := 1 + r.IntN(greatest)
		p := must(fraction.New(1+r.IntN(den), den))
		if len(l) > 0 && r.IntN(3) == 0 {
			p = l[r.IntN(len(l))]
		}
		l = append(l, p)
	}
	return l
}

// TestP19_3_Definition compares with exact sums.
func TestP19_3_Definition(t *testing.T) {
	r := rand.New(rand.NewPCG(19, 4))
	found := map[int]int{}
	for range 10000 {
		n := r.IntN(6)
		values := numbers(r, n, []int{1, 9, million}[r.IntN(3)])
		p := chances(r, n, []int{2, 10, 10000, root, 1000000000, limit}[r.IntN(6)])
		var c paper
		want := gives(c.result(c.weighted(values, p)))
		if a := gives(estimator.Weighted(values, p)); a != want {
			t.Fatal(values, p, a, want)
		}
		found[want.e]++
	}
	if found[api.OK] < 1000 || found[api.ErrLimit] < 1000 {
		t.Error("too few lists of a kind", found)
	}
}

func TestP19_4_Spread(t *testing.T) {
	half := table(list(1, 2, 1, 4, 1, 4, 1, 2))
	for i, x := range []struct {
		values []int
		joint  [][]api.Frac
		want   answer
	}{
		{nil, nil, fine(0, 1)},
		{[]int{}, [][]api.Frac{}, fine(0, 1)},
		{[]int{5}, table(list(1, 1)), fine(0, 1)},
		{[]int{5}, table(list(1, 2)), fine(50, 1)},
		{[]int{-5}, table(list(1, 2)), fine(50, 1)},
		{[]int{3, 5}, half, fine(68, 1)}, // independent: 1/2 36 + 1/2 100
		{[]int{3, -5}, half, fine(68, 1)},
		{[]int{1, 2}, table(list(2, 3, 1, 3, 1, 3, 2, 3)), fine(3, 4)},  // 3/4 - 3/2 - 3/2 + 3
		{[]int{1, 2}, table(list(2, 3, 1, 3, 1, 1, 2, 3)), fine(19, 4)}, // 3/4 - 3/2 + 5/2 + 3
		{[]int{1, 2}, table(list(1, 2, 1, 3, 1, 5, 1, 4)), fine(66, 1)}, // 2 + 10 + 6 + 48
		{[]int{2}, table(list(1, 10*million)), fine(40*million*(10*million-1), 1)},
		// A row for each value, and an element for each value, before everything else.
		{nil, table(list(1, 2)), wrong(api.ErrForm)},
		{nil, [][]api.Frac{{}}, wrong(api.ErrForm)},
		{[]int{1}, nil, wrong(api.ErrForm)},
		{[]int{1}, [][]api.Frac{{}}, wrong(api.ErrForm)},
		{[]int{1}, [][]api.Frac{list(1, 2, 1, 2)}, wrong(api.ErrForm)},
		{[]int{1}, half, wrong(api.ErrForm)},
		{[]int{1, 2}, half[:1], wrong(api.ErrForm)},
		{[]int{1, 2}, [][]api.Frac{list(1, 2, 1, 2), list(1, 2)}, wrong(api.ErrForm)},
		{[]int{1, 2}, [][]api.Frac{list(1, 2, 1, 2, 1, 2), list(1, 2, 1, 2)}, wrong(api.ErrForm)},
		{[]int{1, 2}, [][]api.Frac{list(1, 2, 1, 2), nil}, wrong(api.ErrForm)},
		{[]int{1, lowest}, [][]api.Frac{list(1, 2, 1, 2), list(1, 2)}, wrong(api.ErrForm)},
		{[]int{1, 2}, [][]api.Frac{list(0, 1, 2, 1), list(1, 2)}, wrong(api.ErrForm)},
		{same(0, 1001), half, wrong(api.ErrForm)},
		// The values, before the probabilities.
		{[]int{million + 1}, table(list(1, 2)), wrong(api.ErrLimit)},
		{[]int{1, -million - 1}, half, wrong(api.ErrLimit)},
		{[]int{1, lowest}, table(list(0, 1, 2, 4, 1, 2, 1, 2)), wrong(api.ErrLimit)},
		{same(0, 1001), slices.Repeat([][]api.Frac{slices.Repeat(list(1, 2), 1001)}, 1001), wrong(api.ErrLimit)},
		{same(0, 1001), slices.Repeat([][]api.Frac{slices.Repeat(list(0, 1), 1001)}, 1001), wrong(api.ErrLimit)},
		// The first probability that has an error, row by row.
		{[]int{1}, table(list(0, 1)), wrong(api.ErrRange)},
		{[]int{1}, table(list(-1, 2)), wrong(api.ErrRange)},
		{[]int{1}, table(list(3, 2)), wrong(api.ErrRange)},
		{[]int{1}, table(list(2, 1)), wrong(api.ErrRange)},
		{[]int{1}, table(list(2, 4)), wrong(api.ErrForm)},
		{[]int{1}, table(list(0, 0)), wrong(api.ErrForm)},
		{[]int{1}, table(list(1, -1)), wrong(api.ErrForm)},
		{[]int{1}, table(list(1, limit+1)), wrong(api.ErrLimit)},
		{[]int{0, 0}, table(list(1, 2, 0, 1, 2, 4, 1, 2)), wrong(api.ErrRange)},
		{[]int{0, 0}, table(list(1, 2, 1, 4, 2, 4, 0, 1)), wrong(api.ErrForm)},
		{[]int{0, 0}, table(list(1, 2, 1, 4, 1, 4, 2, 1)), wrong(api.ErrRange)},
		{[]int{0, 0}, table(list(1, 2, 1, 4, 0, 1, 2, 4)), wrong(api.ErrRange)},
		{[]int{0, 0}, table(list(1, 2, 1, limit+1, 0, 1, 2, 4)), wrong(api.ErrLimit)},
		{[]int{0, 0}, table(list(2, 4, 0, 1, 1, 2, 1, 2)), wrong(api.ErrForm)},
		// Probabilities before numbers that become too large.
		{[]int{2, 0}, table(list(1, limit, 1, 2, 1, 2, 0, 1)), wrong(api.ErrRange)},
		{[]int{0, 0}, table(list(1, prime, 1, 2, 2, 4, 1, other)), wrong(api.ErrForm)},
		// Numbers that become too large: a b, also for the value 0.
		{[]int{0}, table(list(1, prime)), wrong(api.ErrLimit)},
		{[]int{0}, table(list(1, root)), fine(0, 1)},
		// The difference from p.
		{[]int{0, 0}, table(list(1, root, 1, prime, 1, root, 1, root)), wrong(api.ErrLimit)},
		{[]int{0, 0}, table(list(1, root, 1, root, 1, root, 1, root)), fine(0, 1)},
		// Its quotient by p alone.
		{[]int{0, 0}, table(list(2270729, 16622270, 358109909187907, 520644353300190, 358109909187907, 520644353300190, 3498889, 17401165)), wrong(api.ErrLimit)},
		// The product of the values alone.
		{[]int{2}, table(list(31622775, 31622776)), wrong(api.ErrLimit)},
		{[]int{1}, table(list(31622775, 31622776)), fine(31622776, 999999898700625)},
		// The product of both.
		{[]int{1, 1}, table(list(3, 4, 500000000000029, 960000000000000, 1, 2, 3, 4)), wrong(api.ErrLimit)},
		// The sums on the way, row by row.
		{[]int{1, 1}, table(list(10007, 10008, 1, 1, 1, 1, 10009, 10010)), wrong(api.ErrLimit)},
		{[]int{1, -10}, table(list(1, 2, 1, limit/10+2, 1, 1, 1, 1)), wrong(api.ErrLimit)}, // 2 + 10^15 - 10 + 0
		{[]int{1, -10}, table(list(1, 2, 1, 1, 1, limit/10+2, 1, 1)), fine(limit-8, 1)},    // 2 - 10 + 10^15 + 0
	} {
		if a := gives(estimator.Spread(x.values, x.joint)); a != x.want {
			t.Error(i, a)
		}
	}
}

// TestP19_4_Definition compares with exact sums, for tables that need not be symmetric.
func TestP19_4_Definition(t *testing.T) {
	r := rand.New(rand.NewPCG(19, 5))
	found := map[int]int{}
	for range 20000 {
		n := r.IntN(5)
		values := numbers(r, n, []int{1, 9, 1000, million}[r.IntN(4)])
		greatest := []int{2, 5, 10, 1000, root, limit}
		p := chances(r, n*n, greatest[r.IntN(6)])
		if single := chances(r, n, greatest[r.IntN(5)]); r.IntN(2) == 0 {
			for i, a := range single {
				p[i*(n+1)] = a
			}
		}
		joint := table(p)
		var c paper
		want := gives(c.result(c.spread(values, joint)))
		if a := gives(estimator.Spread(values, joint)); a != want {
			t.Fatal(values, joint, a, want)
		}
		found[want.e]++
	}
	if found[api.OK] < 5000 || found[api.ErrLimit] < 5000 {
		t.Error("too few tables of a kind", found)
	}
}

// TestP19_4_Limits goes to as many values as there may be.
func TestP19_4_Limits(t *testing.T) {
	values, joint := same(million, 1000), slices.Repeat([][]api.Frac{slices.Repeat(list(1, 1), 1000)}, 1000)
	if a := gives(estimator.Spread(values, joint)); a != fine(0, 1) {
		t.Error(a)
	}
}

func TestP19_5_Ratio(t *testing.T) {
	for i, x := range []struct {
		y, x []int
		want answer
	}{
		{[]int{1, 2}, []int{3, 3}, fine(1, 2)},
		{[]int{0}, []int{5}, fine(0, 1)},
		{[]int{1, 2}, []int{-3, -3}, fine(-1, 2)},
		{[]int{-1, -2}, []int{-3, -4}, fine(3, 7)},
		{[]int{6, 6}, []int{-1, 5}, fine(3, 1)},
		{[]int{0, 0}, []int{0, -2}, fine(0, 1)},
		{same(million, 1000), same(-million, 1000), fine(-1, 1)},
		{same(-million, 1000), append(same(0, 999), 1), fine(-1000*million, 1)},
		{append(same(0, 999), 1), same(million, 1000), fine(1, 1000*million)},
		// The lengths, before everything else.
		{nil, []int{1}, wrong(api.ErrForm)},
		{[]int{1}, nil, wrong(api.ErrForm)},
		{[]int{1, 2}, []int{1}, wrong(api.ErrForm)},
		{[]int{1, lowest}, []int{0}, wrong(api.ErrForm)},
		{same(1, 1001), same(0, 1000), wrong(api.ErrForm)},
		{nil, nil, wrong(api.ErrNone)},
		{[]int{}, nil, wrong(api.ErrNone)},
		// The values, before the sum of x.
		{[]int{million + 1}, []int{1}, wrong(api.ErrLimit)},
		{[]int{-million - 1, 0}, []int{0, 0}, wrong(api.ErrLimit)},
		{[]int{1}, []int{million + 1}, wrong(api.ErrLimit)},
		{[]int{1, 2}, []int{highest, -highest}, wrong(api.ErrLimit)},
		{[]int{1, 2}, []int{lowest, lowest}, wrong(api.ErrLimit)},
		{same(1, 1001), same(1, 1001), wrong(api.ErrLimit)},
		{same(0, 1001), same(0, 1001), wrong(api.ErrLimit)},
		{[]int{1}, []int{0}, wrong(api.ErrZero)},
		{[]int{0}, []int{0}, wrong(api.ErrZero)},
		{[]int{1, 2, 3}, []int{5, -2, -3}, wrong(api.ErrZero)},
	} {
		if a := gives(estimator.Ratio(x.y, x.x)); a != x.want {
			t.Error(i, a)
		}
	}
}

func TestP19_6_Examples(t *testing.T) {
	half := frac(1, 2)
	simple := func(n, k int) api.Design { return must(frame.Simple(n, k)) }
	for i, x := range []struct {
		d      api.Design
		values []int
		want   [3]answer
	}{
		{simple(3, 2), []int{1, 2, 4}, [3]answer{fine(7, 1), fine(7, 2), fine(7, 2)}},
		{simple(3, 3), []int{1, 2, 4}, [3]answer{fine(7, 1), fine(0, 1), fine(0, 1)}},
		{simple(1, 1), []int{-5}, [3]answer{fine(-5, 1), fine(0, 1), fine(0, 1)}},
		{simple(2, 1), []int{million, -million}, [3]answer{fine(0, 1), fine(4*million*million, 1), fine(2*million*million, 1)}},
		// One unit, or nothing: 10 or 0.
		{design(1, draw(half, 0), draw(half)), []int{5}, [3]answer{fine(5, 1), fine(25, 1), fine(25, 1)}},
		// Samples of different sizes: 4, 8 or 4.
		{design(2, draw(half, 0), draw(frac(1, 4), 0, 1), draw(frac(1, 4), 1)), []int{3, 2}, [3]answer{fine(5, 1), fine(3, 1), fine(3, 1)}},
		// Units that are never in a sample together: 10 or 2.
		{design(2, draw(half, 0), draw(half, 1)), []int{5, 1}, [3]answer{fine(6, 1), fine(16, 1), fine(26, 1)}},
		// Units with different chances: 7 or 11.
		{design(3, draw(frac(1, 4), 0, 2), draw(frac(3, 4), 1, 2)), []int{1, 6, 3}, [3]answer{fine(10, 1), fine(3, 1), fine(15, 1)}},
	} {
		if l := overDesigns(x.d, x.values); l != x.want {
			t.Error(i, l)
		}
	}
}

// TestP19_6_Order finds the errors of the three functions over designs in their order.
func TestP19_6_Order(t *testing.T) {
	p, q := frac(1, prime), frac(1, other)
	rest := func(whole, part api.Frac) api.Frac { return must(fraction.Sub(whole, part)) }
	half := frac(1, 2)
	// The inclusion probability of the first unit is too fine, and the last one is in no sample.
	narrow := design(3, draw(p, 0), draw(rest(half, p)), draw(q, 0, 1), draw(rest(half, q), 1))
	missing := design(3, draw(half, 0, 2), draw(half, 2))
	for i, x := range []struct {
		d      api.Design
		values []int
		e      int
	}{
		// The design, before everything else.
		{api.Design{}, nil, api.ErrRange},
		{design(11, draw(frac(1, 1))), []int{1}, api.ErrRange},
		{design(3, make([]api.Draw, 257)...), []int{1}, api.ErrLimit},
		{design(3), []int{lowest}, api.ErrForm},
		{design(3, draw(frac(1, 1), 3)), []int{1, 2, 3}, api.ErrRange},
		{design(3, draw(frac(1, 1), 1, 0)), []int{1}, api.ErrOrder},
		{design(3, draw(frac(2, 2), 0, 1)), []int{lowest, 1, 1}, api.ErrForm},
		{design(3, draw(frac(0, 1), 0, 1)), []int{1, 2, 3, 4}, api.ErrRange},
		{design(3, draw(half, 0, 1, 2), draw(half, 0, 1, 2)), []int{1}, api.ErrExist},
		{design(3, draw(p, 0), draw(q, 1), draw(half)), []int{1}, api.ErrLimit},
		{design(3, draw(half, 0, 1, 2)), []int{1}, api.ErrSum},
		{design(3, draw(half, 0, 1, 2)), []int{1, 2, million + 1}, api.ErrSum},
		{design(3, draw(half, 0)), []int{1, 2, 3}, api.ErrSum},
		// A value for each unit.
		{missing, nil, api.ErrForm},
		{missing, []int{1, 2}, api.ErrForm},
		{missing, []int{1, 2, 3, 4}, api.ErrForm},
		{missing, []int{1, lowest}, api.ErrForm},
		{missing, same(1, 1001), api.ErrForm},
		{narrow, []int{1, 2}, api.ErrForm},
		// The values.
		{missing, []int{1, 2, million + 1}, api.ErrLimit},
		{missing, []int{-million - 1, 2, 3}, api.ErrLimit},
		{missing, []int{1, lowest, 3}, api.ErrLimit},
		// The inclusion probabilities.
		{narrow, []int{0, 0, 0}, api.ErrLimit},
		{missing, []int{0, 0, 0}, api.ErrZero},
		{missing, []int{-million, million, 1}, api.ErrZero},
		{design(1, draw(frac(1, 1))), []int{0}, api.ErrZero},
		{must(frame.Simple(4, 0)), []int{1, 2, 3, 4}, api.ErrZero},
		// A unit in no sample, before results that become too large.
		{design(3, draw(frac(1, limit), 1), draw(frac(limit-1, limit), 0)), []int{2, 2, 2}, api.ErrZero},
	} {
		if l := overDesigns(x.d, x.values); l != [3]answer{wrong(x.e), wrong(x.e), wrong(x.e)} {
			t.Error(i, l)
		}
	}
}

// TestP19_6_Limits goes through the steps whose results can become too large.
func TestP19_6_Limits(t *testing.T) {
	p, q, quarter := frac(1, prime), frac(1, other), frac(1, 4)
	rest := func(whole, part api.Frac) api.Frac { return must(fraction.Sub(whole, part)) }
	tooLarge := wrong(api.ErrLimit)
	// The joint probability of the first two units is too fine, but not their own ones.
	joint := design(3,
		draw(p, 0, 1), draw(rest(quarter, p), 0), draw(rest(quarter, p), 1), draw(must(fraction.Add(quarter, p))),
		draw(q, 0, 1, 2), draw(rest(quarter, q), 2))
	// All single units are fine, but there are samples of them with a very fine probability; the last unit is in all samples.
	fineDraws := must(frame.Independent(list(15811371, root, 15811389, 31622713, 1, 1)))
	rare := design(2, draw(frac(1, 40), 0, 1), draw(frac(39, 40), 1))
	for i, x := range []struct {
		d      api.Design
		values []int
		want   [3]answer
	}{
		{joint, []int{0, 0, 0}, [3]answer{fine(0, 1), fine(0, 1), tooLarge}},
		{fineDraws, []int{0, 0, 0}, [3]answer{fine(0, 1), fine(0, 1), fine(0, 1)}},
		{fineDraws, []int{0, 0, 5}, [3]answer{tooLarge, tooLarge, fine(0, 1)}},
		// The square of the difference is too large: 10^6 times 39, or times 29.
		{rare, []int{million, 0}, [3]answer{fine(million, 1), tooLarge, tooLarge}},
		{rare, []int{million / 2, 0}, [3]answer{fine(million/2, 1), fine(39*million*million/4, 1), fine(39*million*million/4, 1)}},
		// Weighted for a sample is too large.
		{design(1, draw(frac(1, limit), 0), draw(frac(limit-1, limit))), []int{2}, [3]answer{tooLarge, tooLarge, tooLarge}},
		{design(1, draw(frac(1, limit), 0), draw(frac(limit-1, limit))), []int{1}, [3]answer{fine(1, 1), tooLarge, tooLarge}},
	} {
		if l := overDesigns(x.d, x.values); l != x.want {
			t.Error(i, l)
		}
	}
}

// calculated returns what the three functions over designs answer, for a valid design with values that are permitted.
func calculated(d api.Design, values []int) [3]answer {
	var c paper
	var p []api.Frac
	for i := range values {
		p = append(p, c.chance(d, i))
	}
	if c.beyond {
		return [3]answer{wrong(api.ErrLimit), wrong(api.ErrLimit), wrong(api.ErrLimit)}
	}
	if slices.Contains(p, frac(0, 1)) {
		return [3]answer{wrong(api.ErrZero), wrong(api.ErrZero), wrong(api.ErrZero)}
	}
	estimate := func(c *paper, units []int) *big.Rat {
		var y []int
		var chances []api.Frac
		for _, unit := range units {
			y, chances = append(y, values[unit]), append(chances, p[unit])
		}
		return c.weighted(y, chances)
	}
	mean := c.average(d, func(units []int) *big.Rat { return estimate(&c, units) })
	expected := gives(c.result(mean))
	deviation := gives(c.result(c.average(d, func(units []int) *big.Rat {
		difference := c.sub(estimate(&c, units), mean)
		return c.mul(difference, difference)
	})))
	return [3]answer{expected, deviation, expectedSpread(d, values)}
}

// expectedSpread returns what ExpectedSpread answers where each unit has its chance.
func expectedSpread(d api.Design, values []int) answer {
	var c paper
	pairs := make([][]api.Frac, d.Units)
	for i := range pairs {
		for j := range d.Units {
			pairs[i] = append(pairs[i], c.chance(d, i, j))
		}
	}
	if c.beyond {
		return wrong(api.ErrLimit)
	}
	return gives(c.result(c.average(d, func(units []int) *big.Rat {
		var y []int
		rows := make([][]api.Frac, len(units))
		for i, unit := range units {
			y = append(y, values[unit])
			for _, other := range units {
				rows[i] = append(rows[i], pairs[unit][other])
			}
		}
		return c.spread(y, rows)
	})))
}

// TestP19_6_Definition compares with exact sums over the draws.
func TestP19_6_Definition(t *testing.T) {
	r := rand.New(rand.NewPCG(19, 6))
	found := map[[3]int]int{}
	check := func(d api.Design, values []int) {
		l, want := overDesigns(d, values), calculated(d, values)
		if l != want {
			t.Fatal(d, values, l, want)
		}
		found[[3]int{l[0].e, l[1].e, l[2].e}]++
	}
	designs(7, func(d api.Design) {
		for _, greatest := range []int{1, 9, million} {
			check(d, numbers(r, d.Units, greatest))
		}
	})
	for range 6000 {
		units := 1 + r.IntN(4)
		d := random(r, units, 1+r.IntN(1<<units), []int{1, 3, 30, 1000, 30000, 10000000}[r.IntN(6)])
		if frame.Check(d) != api.OK {
			continue
		}
		check(d, numbers(r, units, []int{0, 1, 9, 1000, million}[r.IntN(5)]))
	}
	ok, beyond := api.OK, api.ErrLimit
	for _, x := range [][3]int{{ok, ok, ok}, {api.ErrZero, api.ErrZero, api.ErrZero}, {beyond, beyond, beyond}, {ok, beyond, beyond}, {ok, ok, beyond}, {ok, beyond, ok}} {
		if found[x] < 10 {
			t.Error("too few designs with the errors", x, found)
		}
	}
}

// TestP19_7_Unbiased finds that Expected is the total wherever each unit can be drawn.
func TestP19_7_Unbiased(t *testing.T) {
	r := rand.New(rand.NewPCG(19, 8))
	count := 0
	designs(9, func(d api.Design) {
		values := numbers(r, d.Units, 1000)
		total := 0
		for _, y := range values {
			total += y
		}
		want := fine(total, 1)
		if units, _ := complete(d); !units {
			want = wrong(api.ErrZero)
		} else {
			count++
		}
		if a := gives(estimator.Expected(d, values)); a != want {
			t.Error(d, values, a, want)
		}
	})
	if count < 200 {
		t.Error("only", count, "designs can draw each unit")
	}
}

// TestP19_7_Spread finds that ExpectedSpread is Deviation wherever each pair of units can be drawn, and need not be elsewhere.
func TestP19_7_Spread(t *testing.T) {
	r := rand.New(rand.NewPCG(19, 10))
	equal, different := 0, 0
	designs(11, func(d api.Design) {
		values := numbers(r, d.Units, 100)
		l := overDesigns(d, values)
		units, pairs := complete(d)
		switch {
		case !units || l[1].e != api.OK || l[2].e != api.OK:
			return
		case pairs && l[1] != l[2]:
			t.Error(d, values, l)
		case pairs:
			equal++
		case l[1] != l[2]:
			different++
		}
	})
	if equal < 100 || different < 20 {
		t.Error("too few designs of a kind", equal, different)
	}
}

// TestP19_7_Variance finds what becomes of the variance if all values are greater, or have a common factor.
func TestP19_7_Variance(t *testing.T) {
	r := rand.New(rand.NewPCG(19, 12))
	for range 2000 {
		values := numbers(r, 2+r.IntN(30), 900)
		more, factor := r.IntN(2001)-1000, r.IntN(41)-20
		variance := must(estimator.Variance(values))
		moved, times := slices.Clone(values), slices.Clone(values)
		for i := range values {
			moved[i] += more
			times[i] *= factor
		}
		if a := gives(estimator.Variance(moved)); a != (answer{variance, api.OK}) {
			t.Error(values, more, a, variance)
		}
		want := gives(fraction.Mul(variance, frac(factor*factor, 1)))
		if a := gives(estimator.Variance(times)); a != want {
			t.Error(values, factor, a, want)
		}
	}
}

// TestP3_SimpleRandomSamples finds that over all samples of k units the mean of the estimated totals is the total, and the mean of their estimated variances is their variance.
func TestP3_SimpleRandomSamples(t *testing.T) {
	r := rand.New(rand.NewPCG(19, 13))
	for n := 2; n <= 8; n++ {
		for k := 2; k <= n; k++ {
			values := numbers(r, n, 1000)
			d := must(frame.Simple(n, k))
			share := big.NewRat(1, int64(len(d.Draws)))
			total, mean, spread, variance := whole(0), whole(0), whole(0), whole(0)
			for _, y := range values {
				total.Add(total, whole(y))
			}
			for _, x := range d.Draws {
				var sample []int
				for _, unit := range x.Units {
					sample = append(sample, values[unit])
				}
				a, b, e := estimator.Total(n, sample)
				if e != api.OK {
					t.Fatal(n, sample, e)
				}
				// A simple random sample gives each unit the same chance, so that both estimators agree.
				if w := gives(estimator.Weighted(sample, slices.Repeat([]api.Frac{must(fraction.New(k, n))}, k))); w != (answer{a, api.OK}) {
					t.Error(n, sample, w, a)
				}
				mean.Add(mean, new(big.Rat).Mul(share, exact(a)))
				spread.Add(spread, new(big.Rat).Mul(share, exact(b)))
				difference := new(big.Rat).Sub(exact(a), total)
				variance.Add(variance, difference.Mul(difference, difference).Mul(difference, share))
			}
			if mean.Cmp(total) != 0 || spread.Cmp(variance) != 0 {
				t.Error(n, k, values, mean, total, spread, variance)
			}
			if a := gives(estimator.Deviation(d, values)); a != gives(rounded(variance)) {
				t.Error(n, k, values, a, variance)
			}
		}
	}
}
