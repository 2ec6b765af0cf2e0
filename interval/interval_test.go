package interval_test

import (
	"math/big"
	"math/rand/v2"
	"slices"
	"testing"

	"coupe/api"
	"coupe/fraction"
	"coupe/interval"
)

const (
	least = -1 << 63
	most  = 1<<63 - 1
	limit = 1000000000000000
)

func span(lo, hi int) api.Span {
	return api.Span{Lo: lo, Hi: hi}
}

func frac(num, den int) api.Frac {
	return api.Frac{Num: num, Den: den}
}

// invalid are intervals that are not valid, with their errors.
var invalid = []struct {
	s api.Span
	e int
}{
	{api.Span{Lo: 1, Hi: 0}, api.ErrArg},
	{api.Span{Lo: limit, Hi: -limit}, api.ErrArg},
	// The order of the ends is checked first.
	{api.Span{Lo: limit + 1, Hi: 0}, api.ErrArg},
	{api.Span{Lo: 0, Hi: -limit - 1}, api.ErrArg},
	{api.Span{Lo: most, Hi: least}, api.ErrArg},
	{api.Span{Lo: 0, Hi: limit + 1}, api.ErrLimit},
	{api.Span{Lo: -limit - 1, Hi: 0}, api.ErrLimit},
	{api.Span{Lo: -limit - 1, Hi: -limit - 1}, api.ErrLimit},
	{api.Span{Lo: limit + 1, Hi: limit + 2}, api.ErrLimit},
	{api.Span{Lo: least, Hi: most}, api.ErrLimit},
	{api.Span{Lo: least, Hi: least}, api.ErrLimit},
	{api.Span{Lo: most, Hi: most}, api.ErrLimit},
}

// invalidFractions are fractions that are not valid, with their errors.
var invalidFractions = []struct {
	f api.Frac
	e int
}{
	{api.Frac{}, api.ErrForm},
	{api.Frac{Num: 1, Den: -2}, api.ErrForm},
	{api.Frac{Num: -2, Den: 4}, api.ErrForm},
	{api.Frac{Num: limit + 1, Den: 1}, api.ErrLimit},
	{api.Frac{Num: -1, Den: limit + 1}, api.ErrLimit},
	{api.Frac{Num: least, Den: most}, api.ErrLimit},
}

// spans are valid intervals: small ones, those about the limits, and others of all sizes.
func spans() []api.Span {
	ends := []int{-limit, -limit + 1, -limit / 2, -limit/2 - 1, -7, -2, -1, 0, 1, 2, 3, 10, limit/2 - 1, limit / 2, limit/2 + 1, limit - 1, limit}
	r := rand.New(rand.NewPCG(3, 3))
	for i := range 6 {
		n := r.IntN(limit) >> (8 * i)
		ends = append(ends, n, -n)
	}
	var l []api.Span
	for _, lo := range ends {
		for _, hi := range ends {
			if lo <= hi {
				l = append(l, span(lo, hi))
			}
		}
	}
	return l
}

// small are all intervals within a short range.
func small(from, to int) []api.Span {
	var l []api.Span
	for lo := from; lo <= to; lo++ {
		for hi := lo; hi <= to; hi++ {
			l = append(l, span(lo, hi))
		}
	}
	return l
}

// expect is what a function returns whose interval has these ends.
func expect(lo, hi *big.Int) (api.Span, int) {
	bound := big.NewInt(limit)
	if lo.CmpAbs(bound) > 0 || hi.CmpAbs(bound) > 0 {
		return api.Span{}, api.ErrLimit
	}
	return span(int(lo.Int64()), int(hi.Int64())), api.OK
}

// operation is a function of two intervals.
type operation struct {
	name string
	of   func(a, b api.Span) (api.Span, int)
}

func operations() []operation {
	return []operation{
		{"Add", interval.Add},
		{"Sub", interval.Sub},
		{"Join", interval.Join},
		{"Meet", interval.Meet},
		{"Sum", func(a, b api.Span) (api.Span, int) { return interval.Sum([]api.Span{a, b}) }},
	}
}

// TestP1_AnyArguments calls all functions with arguments of any form: none panics, and all results are valid.
func TestP1_AnyArguments(t *testing.T) {
	nums := []int{least, least + 1, -limit - 1, -limit, -1 << 40, -1, 0, 1, 3, 1 << 40, limit - 1, limit, limit + 1, most}
	var l []api.Span
	var fractions []api.Frac
	for _, n := range nums {
		for _, d := range nums {
			l = append(l, span(n, d))
			fractions = append(fractions, frac(n, d))
		}
	}
	valid := func(name string, s api.Span, e int) {
		if e == api.OK && interval.Check(s) != api.OK || e != api.OK && s != (api.Span{}) {
			t.Error(name, s, e)
		}
	}
	for _, a := range l {
		s, e := interval.Neg(a)
		valid("Neg", s, e)
		if n, e := interval.Width(a); n < 0 || e != api.OK && n != 0 {
			t.Error("Width", a, n, e)
		}
		for _, b := range l {
			for _, o := range operations() {
				s, e = o.of(a, b)
				valid(o.name, s, e)
			}
			interval.Within(a, b)
		}
		for _, f := range fractions {
			s, e = interval.Scale(a, f)
			valid("Scale", s, e)
		}
		for _, n := range nums {
			interval.Contains(a, n)
		}
	}
	for _, f := range fractions {
		s, e := interval.FromFrac(f)
		valid("FromFrac", s, e)
	}
}

func TestP3_1_Check(t *testing.T) {
	for _, x := range invalid {
		if e := interval.Check(x.s); e != x.e {
			t.Error(x.s, e)
		}
	}
	for _, s := range spans() {
		if e := interval.Check(s); e != api.OK {
			t.Error(s, e)
		}
	}
}

// TestP3_1_ErrorsOfOperands gives intervals that are not valid to all functions with errors: the first one decides.
func TestP3_1_ErrorsOfOperands(t *testing.T) {
	for _, x := range invalid {
		if s, e := interval.Neg(x.s); s != (api.Span{}) || e != x.e {
			t.Error("Neg", x.s, s, e)
		}
		if n, e := interval.Width(x.s); n != 0 || e != x.e {
			t.Error("Width", x.s, n, e)
		}
		if s, e := interval.Scale(x.s, frac(1, 1)); s != (api.Span{}) || e != x.e {
			t.Error("Scale", x.s, s, e)
		}
		for _, o := range operations() {
			for _, ok := range []api.Span{span(0, 0), span(-5, 3), span(-limit, limit)} {
				if s, e := o.of(x.s, ok); s != (api.Span{}) || e != x.e {
					t.Error(o.name, x.s, ok, s, e)
				}
				if s, e := o.of(ok, x.s); s != (api.Span{}) || e != x.e {
					t.Error(o.name, ok, x.s, s, e)
				}
			}
			for _, y := range invalid {
				if s, e := o.of(x.s, y.s); s != (api.Span{}) || e != x.e {
					t.Error(o.name, x.s, y.s, s, e)
				}
			}
		}
	}
}

func TestP3_1_Examples(t *testing.T) {
	for i, x := range []struct {
		of   func(a, b api.Span) (api.Span, int)
		a, b api.Span
		want api.Span
		e    int
	}{
		{interval.Add, span(2, 5), span(-1, 3), span(1, 8), api.OK},
		{interval.Sub, span(2, 5), span(-1, 3), span(-1, 6), api.OK},
		{interval.Add, span(0, limit-1), span(0, 1), span(0, limit), api.OK},
		{interval.Add, span(0, limit), span(0, 1), api.Span{}, api.ErrLimit},
		{interval.Add, span(-limit, 0), span(-1, 0), api.Span{}, api.ErrLimit},
		{interval.Add, span(-limit, limit), span(-limit, limit), api.Span{}, api.ErrLimit},
		{interval.Sub, span(-limit, 0), span(0, 1), api.Span{}, api.ErrLimit},
		{interval.Sub, span(0, limit), span(-1, 0), api.Span{}, api.ErrLimit},
		{interval.Sub, span(limit, limit), span(limit, limit), span(0, 0), api.OK},
		{interval.Join, span(2, 5), span(-1, 3), span(-1, 5), api.OK},
		{interval.Join, span(7, 8), span(-4, -3), span(-4, 8), api.OK},
		{interval.Join, span(1, 8), span(2, 3), span(1, 8), api.OK},
		{interval.Meet, span(0, 3), span(3, 5), span(3, 3), api.OK},
		{interval.Meet, span(0, 2), span(3, 5), api.Span{}, api.ErrNone},
		{interval.Meet, span(3, 5), span(0, 2), api.Span{}, api.ErrNone},
		{interval.Meet, span(1, 8), span(2, 3), span(2, 3), api.OK},
		{interval.Meet, span(1, 4), span(2, 9), span(2, 4), api.OK},
	} {
		if s, e := x.of(x.a, x.b); s != x.want || e != x.e {
			t.Error(i, s, e)
		}
	}
}

func TestP3_1_AddSubNegWidth(t *testing.T) {
	l := spans()
	for _, a := range l {
		if s, e := interval.Neg(a); s != span(-a.Hi, -a.Lo) || e != api.OK {
			t.Error("Neg", a, s, e)
		}
		if n, e := interval.Width(a); n != a.Hi-a.Lo || e != api.OK {
			t.Error("Width", a, n, e)
		}
		for _, b := range l {
			want, f := expect(big.NewInt(int64(a.Lo+b.Lo)), big.NewInt(int64(a.Hi+b.Hi)))
			if s, e := interval.Add(a, b); s != want || e != f {
				t.Error("Add", a, b, s, e)
			}
			want, f = expect(big.NewInt(int64(a.Lo-b.Hi)), big.NewInt(int64(a.Hi-b.Lo)))
			if s, e := interval.Sub(a, b); s != want || e != f {
				t.Error("Sub", a, b, s, e)
			}
		}
	}
}

func TestP3_1_ScaleExamples(t *testing.T) {
	for i, x := range []struct {
		s    api.Span
		f    api.Frac
		want api.Span
		e    int
	}{
		{span(-3, 4), frac(2, 3), span(-2, 3), api.OK},
		{span(1, limit), frac(1, limit), span(0, 1), api.OK},
		{span(-limit, -1), frac(1, limit), span(-1, 0), api.OK},
		{span(0, limit), frac(limit, limit-1), api.Span{}, api.ErrLimit},
		{span(-limit, 0), frac(limit, limit-1), api.Span{}, api.ErrLimit},
		{span(limit-1, limit-1), frac(limit, limit-1), span(limit, limit), api.OK},
		{span(-limit, limit), frac(limit-1, limit), span(-limit+1, limit-1), api.OK},
		{span(-limit, limit), frac(0, 1), span(0, 0), api.OK},
		{span(-limit, limit), frac(1, 1), span(-limit, limit), api.OK},
		{span(-limit, limit), frac(limit, 1), api.Span{}, api.ErrLimit},
		{span(limit, limit), frac(limit, 1), api.Span{}, api.ErrLimit},
		{span(-5, -5), frac(1, 2), span(-3, -2), api.OK},
		{span(5, 5), frac(1, 2), span(2, 3), api.OK},
		// 2^63 is one more than the greatest int, and its negative is an int.
		{span(0, 1<<40), frac(1<<23, 1), api.Span{}, api.ErrLimit},
		{span(-1<<40, 0), frac(1<<23, 1), api.Span{}, api.ErrLimit},
		{span(-1<<40, 1<<40), frac(1<<23, 1), api.Span{}, api.ErrLimit},
		// 2^64 would be 0 as an int.
		{span(-1<<40, 1<<40), frac(1<<24, 1), api.Span{}, api.ErrLimit},
	} {
		if s, e := interval.Scale(x.s, x.f); s != x.want || e != x.e {
			t.Error(i, s, e)
		}
	}
}

func TestP3_1_ScaleErrors(t *testing.T) {
	for _, x := range invalidFractions {
		for _, s := range []api.Span{span(0, 0), span(-limit, limit)} {
			if got, e := interval.Scale(s, x.f); got != (api.Span{}) || e != x.e {
				t.Error(s, x.f, got, e)
			}
		}
		// The interval is checked before the fraction.
		for _, y := range invalid {
			if got, e := interval.Scale(y.s, x.f); got != (api.Span{}) || e != y.e {
				t.Error(y.s, x.f, got, e)
			}
		}
	}
	for _, f := range []api.Frac{frac(-1, 1), frac(-1, limit), frac(-limit, 1)} {
		for _, s := range []api.Span{span(0, 0), span(2, 3), span(-limit, limit)} {
			if got, e := interval.Scale(s, f); got != (api.Span{}) || e != api.ErrArg {
				t.Error(s, f, got, e)
			}
		}
	}
}

// scaled is what Scale returns, by integers of any size.
func scaled(s api.Span, f api.Frac) (api.Span, int) {
	num, den := big.NewInt(int64(f.Num)), big.NewInt(int64(f.Den))
	// Div of math/big rounds down, since the denominator is above 0.
	floor := func(n int) *big.Int {
		product := new(big.Int).Mul(big.NewInt(int64(n)), num)
		return product.Div(product, den)
	}
	below := floor(-s.Hi)
	return expect(floor(s.Lo), below.Neg(below))
}

func TestP3_1_ScaleOfAll(t *testing.T) {
	fractions := []api.Frac{frac(0, 1), frac(1, 1), frac(1, 2), frac(2, 3), frac(7, 5), frac(10, 1), frac(1<<23, 1), frac(1, limit), frac(limit, 1), frac(limit-1, limit), frac(limit, limit-1), frac(1, 1000000), frac(355, 113), frac(999999937, 1000000)}
	for _, s := range spans() {
		for _, f := range fractions {
			want, e := scaled(s, f)
			if got, g := interval.Scale(s, f); got != want || g != e {
				t.Error(s, f, got, g)
			}
		}
	}
}

func TestP3_1_ContainsAndWithin(t *testing.T) {
	for _, x := range []struct {
		s    api.Span
		x    int
		want bool
	}{
		{span(-2, 3), -2, true}, {span(-2, 3), 3, true}, {span(-2, 3), 0, true}, {span(-2, 3), -3, false}, {span(-2, 3), 4, false},
		{span(5, 5), 5, true}, {span(5, 5), 4, false}, {span(-limit, limit), limit, true}, {span(-limit, limit), limit + 1, false},
		{span(-limit, limit), least, false}, {span(-limit, limit), most, false},
	} {
		if interval.Contains(x.s, x.x) != x.want {
			t.Error("Contains", x)
		}
	}
	for _, x := range []struct {
		a, b api.Span
		want bool
	}{
		{span(1, 2), span(1, 2), true}, {span(1, 2), span(0, 3), true}, {span(1, 2), span(1, 3), true}, {span(1, 2), span(0, 2), true},
		{span(0, 3), span(1, 2), false}, {span(0, 2), span(1, 2), false}, {span(1, 3), span(1, 2), false}, {span(0, 1), span(2, 3), false},
		{span(-limit, limit), span(-limit, limit), true}, {span(0, 0), span(-limit, limit), true},
	} {
		if interval.Within(x.a, x.b) != x.want {
			t.Error("Within", x)
		}
	}
	for _, x := range invalid {
		for _, n := range []int{least, -limit, -1, 0, 1, limit, limit + 1, limit + 2, most} {
			if interval.Contains(x.s, n) {
				t.Error("Contains", x.s, n)
			}
		}
		for _, s := range []api.Span{span(0, 0), span(-limit, limit), x.s} {
			if interval.Within(x.s, s) || interval.Within(s, x.s) {
				t.Error("Within", x.s, s)
			}
		}
	}
}

func TestP3_1_Sum(t *testing.T) {
	for i, x := range []struct {
		l    []api.Span
		want api.Span
		e    int
	}{
		{nil, span(0, 0), api.OK},
		{[]api.Span{}, span(0, 0), api.OK},
		{[]api.Span{span(-3, 4)}, span(-3, 4), api.OK},
		{[]api.Span{span(2, 5), span(-1, 3), span(0, 7)}, span(1, 15), api.OK},
		// The result depends on the order: it is made from the left.
		{[]api.Span{span(limit, limit), span(-limit, -limit), span(1, 1)}, span(1, 1), api.OK},
		{[]api.Span{span(limit, limit), span(1, 1), span(-limit, -limit)}, api.Span{}, api.ErrLimit},
		{[]api.Span{span(1, 1), span(limit, limit), span(-limit, -limit)}, api.Span{}, api.ErrLimit},
		{[]api.Span{span(-limit, 0), span(-1, 0), span(2, 2)}, api.Span{}, api.ErrLimit},
		// The errors of the intervals come first, also if a sum before exceeds the limit.
		{[]api.Span{span(limit, limit), span(1, 1), span(1, 0)}, api.Span{}, api.ErrArg},
		{[]api.Span{span(0, 1), span(0, limit+1), span(1, 0)}, api.Span{}, api.ErrLimit},
		{[]api.Span{span(0, 1), span(1, 0), span(0, limit+1)}, api.Span{}, api.ErrArg},
		{[]api.Span{span(least, most)}, api.Span{}, api.ErrLimit},
	} {
		if s, e := interval.Sum(x.l); s != x.want || e != x.e {
			t.Error(i, s, e)
		}
	}
	if s, e := interval.Sum(slices.Repeat([]api.Span{span(-1, limit/100000)}, 100000)); s != span(-100000, limit) || e != api.OK {
		t.Error("many", s, e)
	}
}

func TestP3_1_SumLeavesItsArgument(t *testing.T) {
	l := []api.Span{span(1, 2), span(-1, 3), span(5, 5), span(0, 9)}
	keep := slices.Clone(l)
	interval.Sum(l[:2])
	if !slices.Equal(l, keep) {
		t.Error(l)
	}
}

func TestP3_1_FromFrac(t *testing.T) {
	for _, x := range []struct {
		f    api.Frac
		want api.Span
	}{
		{frac(-7, 2), span(-4, -3)},
		{frac(7, 2), span(3, 4)},
		{frac(0, 1), span(0, 0)},
		{frac(-6, 1), span(-6, -6)},
		{frac(1, limit), span(0, 1)},
		{frac(-1, limit), span(-1, 0)},
		{frac(limit, 1), span(limit, limit)},
		{frac(-limit, 1), span(-limit, -limit)},
		{frac(-limit, limit-1), span(-2, -1)},
	} {
		if s, e := interval.FromFrac(x.f); s != x.want || e != api.OK {
			t.Error(x.f, s, e)
		}
	}
	for _, x := range invalidFractions {
		if s, e := interval.FromFrac(x.f); s != (api.Span{}) || e != x.e {
			t.Error(x.f, s, e)
		}
	}
}

// TestP3_2_Members computes with all members of small intervals: the results enclose theirs, and Meet has those of both.
func TestP3_2_Members(t *testing.T) {
	l := small(-4, 4)
	for _, a := range l {
		for _, b := range l {
			sum, _ := interval.Add(a, b)
			difference, _ := interval.Sub(a, b)
			join, _ := interval.Join(a, b)
			meet, e := interval.Meet(a, b)
			common := 0
			for x := a.Lo; x <= a.Hi; x++ {
				if interval.Contains(b, x) {
					common++
					if !interval.Contains(meet, x) {
						t.Error("Meet", a, b, x)
					}
				}
				for y := b.Lo; y <= b.Hi; y++ {
					if !interval.Contains(sum, x+y) || !interval.Contains(difference, x-y) || !interval.Contains(join, x) || !interval.Contains(join, y) {
						t.Error(a, b, x, y)
					}
				}
			}
			if (e == api.ErrNone) != (common == 0) || e == api.OK && !(interval.Within(meet, a) && interval.Within(meet, b)) {
				t.Error("Meet", a, b, meet, e)
			}
		}
	}
}

// TestP3_2_MembersOfScale finds the floor and the ceiling of each product within the interval.
func TestP3_2_MembersOfScale(t *testing.T) {
	for _, a := range small(-5, 5) {
		for num := range 9 {
			for den := 1; den < 9; den++ {
				f, _ := fraction.New(num, den)
				scale, e := interval.Scale(a, f)
				if e != api.OK {
					t.Error(a, f, e)
				}
				for x := a.Lo; x <= a.Hi; x++ {
					product, _ := fraction.New(x*num, den)
					if !interval.Contains(scale, fraction.Floor(product)) || !interval.Contains(scale, fraction.Ceil(product)) {
						t.Error(a, f, x, scale)
					}
				}
			}
		}
	}
}

// TestP3_2_Growth replaces intervals by those that contain them: the results contain the earlier ones.
func TestP3_2_Growth(t *testing.T) {
	l := small(-2, 2)
	grows := func(name string, before api.Span, e int, after api.Span, f int) {
		if e == api.OK && f == api.OK && !interval.Within(before, after) {
			t.Error(name, before, after)
		}
	}
	for _, a := range l {
		for _, c := range l {
			if !interval.Within(a, c) {
				continue
			}
			before, e := interval.Neg(a)
			after, f := interval.Neg(c)
			grows("Neg", before, e, after, f)
			for _, x := range []api.Frac{frac(0, 1), frac(2, 3), frac(5, 2), frac(3, 1)} {
				before, e = interval.Scale(a, x)
				after, f = interval.Scale(c, x)
				grows("Scale", before, e, after, f)
			}
			for _, b := range l {
				for _, d := range l {
					if !interval.Within(b, d) {
						continue
					}
					for _, o := range operations() {
						before, e = o.of(a, b)
						after, f = o.of(c, d)
						grows(o.name, before, e, after, f)
						if e == api.OK && f != api.OK {
							t.Error(o.name, a, b, c, d, f)
						}
					}
				}
			}
		}
	}
}

func TestP3_2_Widths(t *testing.T) {
	l := spans()
	for _, a := range l {
		for _, b := range l {
			s, e := interval.Add(a, b)
			if e != api.OK {
				continue
			}
			whole, _ := interval.Width(s)
			first, _ := interval.Width(a)
			second, _ := interval.Width(b)
			if whole != first+second {
				t.Error(a, b, whole, first, second)
			}
		}
	}
}
