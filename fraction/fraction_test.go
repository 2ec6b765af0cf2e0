package fraction_test

import (
	"math/big"
	"math/rand/v2"
	"slices"
	"strconv"
	"testing"

	"coupe/api"
	"coupe/fraction"
)

const (
	least = -1 << 63
	most  = 1<<63 - 1
	limit = 1000000000000000
)

// invalid are fractions that are not valid, with their errors.
var invalid = []struct {
	f api.Frac
	e int
}{
	{api.Frac{}, api.ErrForm},
	{api.Frac{Num: 1}, api.ErrForm},
	{api.Frac{Num: 3, Den: -1}, api.ErrForm},
	{api.Frac{Num: 0, Den: 2}, api.ErrForm},
	{api.Frac{Num: 2, Den: 4}, api.ErrForm},
	{api.Frac{Num: -6, Den: 3}, api.ErrForm},
	{api.Frac{Num: limit, Den: limit}, api.ErrForm},
	{api.Frac{Num: limit + 1, Den: 0}, api.ErrForm},
	{api.Frac{Num: least, Den: least}, api.ErrForm},
	{api.Frac{Num: limit + 1, Den: 1}, api.ErrLimit},
	{api.Frac{Num: -limit - 1, Den: 1}, api.ErrLimit},
	{api.Frac{Num: 1, Den: limit + 1}, api.ErrLimit},
	{api.Frac{Num: 2, Den: 2 * limit}, api.ErrLimit},
	{api.Frac{Num: 2 * limit, Den: 2}, api.ErrLimit},
	{api.Frac{Num: least, Den: 1}, api.ErrLimit},
	{api.Frac{Num: most, Den: most}, api.ErrLimit},
}

// fractions are valid fractions: small ones, those about the limits, and others of all sizes.
func fractions() []api.Frac {
	nums := []int{0, 1, 2, 3, 4, 5, 6, 7, 10, 12, 1000000, 31622776, 31622777, limit / 2, limit / 4, limit - 2, limit - 1, limit}
	dens := []int{1, 2, 3, 4, 6, 9, 10, 1000000, 31622777, limit / 2, limit - 1, limit}
	r := rand.New(rand.NewPCG(4, 4))
	for i := range 6 {
		nums = append(nums, r.IntN(limit)>>(8*i))
		dens = append(dens, 1+r.IntN(limit)>>(8*i))
	}
	var l []api.Frac
	for _, n := range nums {
		for _, d := range dens {
			for _, f := range []api.Frac{{Num: n, Den: d}, {Num: -n, Den: d}} {
				if fraction.Check(f) == api.OK && !slices.Contains(l, f) {
					l = append(l, f)
				}
			}
		}
	}
	return l
}

func toRat(f api.Frac) *big.Rat {
	return big.NewRat(int64(f.Num), int64(f.Den))
}

// fromRat is what a function returns for an exact result.
func fromRat(x *big.Rat) (api.Frac, int) {
	bound := big.NewInt(limit)
	if x.Num().CmpAbs(bound) > 0 || x.Denom().Cmp(bound) > 0 {
		return api.Frac{}, api.ErrLimit
	}
	return api.Frac{Num: int(x.Num().Int64()), Den: int(x.Denom().Int64())}, api.OK
}

// TestP1_AnyArguments calls all functions with fractions of any form: none panics, and all results are valid.
func TestP1_AnyArguments(t *testing.T) {
	nums := []int{least, least + 1, -limit - 1, -limit, -2, -1, 0, 1, 2, 3, limit, limit + 1, most}
	var l []api.Frac
	for _, n := range nums {
		for _, d := range nums {
			l = append(l, api.Frac{Num: n, Den: d})
		}
	}
	valid := func(name string, f api.Frac, e int) {
		if e == api.OK && fraction.Check(f) != api.OK || e != api.OK && f != (api.Frac{}) {
			t.Error(name, f, e)
		}
	}
	for _, a := range l {
		f, e := fraction.Neg(a)
		valid("Neg", f, e)
		f, e = fraction.New(a.Num, a.Den)
		valid("New", f, e)
		fraction.Floor(a)
		fraction.Ceil(a)
		fraction.Round(a)
		text, _ := fraction.Text(a)
		f, e = fraction.Parse(text)
		valid("Parse", f, e)
		for _, b := range l {
			for _, o := range operations() {
				f, e = o.ours(a, b)
				valid(o.name, f, e)
			}
			f, e = fraction.Sum([]api.Frac{a, b, a})
			valid("Sum", f, e)
			fraction.Compare(a, b)
		}
	}
}

func TestP2_1_Check(t *testing.T) {
	for _, x := range invalid {
		if e := fraction.Check(x.f); e != x.e {
			t.Error(x.f, e)
		}
	}
	for _, f := range []api.Frac{{Num: 0, Den: 1}, {Num: 1, Den: 1}, {Num: -7, Den: 9}, {Num: limit, Den: 1}, {Num: -limit, Den: 1}, {Num: 1, Den: limit}, {Num: -limit, Den: limit - 1}, {Num: limit - 1, Den: limit}} {
		if e := fraction.Check(f); e != api.OK {
			t.Error(f, e)
		}
	}
}

func TestP2_1_NewExamples(t *testing.T) {
	for _, x := range []struct {
		num, den int
		f        api.Frac
		e        int
	}{
		{-6, 4, api.Frac{Num: -3, Den: 2}, api.OK},
		{4, -8, api.Frac{Num: -1, Den: 2}, api.OK},
		{-4, -8, api.Frac{Num: 1, Den: 2}, api.OK},
		{0, -7, api.Frac{Num: 0, Den: 1}, api.OK},
		{0, least, api.Frac{Num: 0, Den: 1}, api.OK},
		{0, 0, api.Frac{}, api.ErrZero},
		{least, 0, api.Frac{}, api.ErrZero},
		{least, least, api.Frac{Num: 1, Den: 1}, api.OK},
		{least, -1, api.Frac{}, api.ErrLimit},
		{1, least, api.Frac{}, api.ErrLimit},
		{least, 1 << 62, api.Frac{Num: -2, Den: 1}, api.OK},
		{-1 << 62, least, api.Frac{Num: 1, Den: 2}, api.OK},
		{limit, 1, api.Frac{Num: limit, Den: 1}, api.OK},
		{limit + 1, 1, api.Frac{}, api.ErrLimit},
		{-limit - 1, 1, api.Frac{}, api.ErrLimit},
		{-limit, -1, api.Frac{Num: limit, Den: 1}, api.OK},
		{1, limit, api.Frac{Num: 1, Den: limit}, api.OK},
		{1, -limit - 1, api.Frac{}, api.ErrLimit},
		{2 * limit, 2 * limit, api.Frac{Num: 1, Den: 1}, api.OK},
		{2*limit + 2, 2, api.Frac{}, api.ErrLimit},
	} {
		if f, e := fraction.New(x.num, x.den); f != x.f || e != x.e {
			t.Error(x, f, e)
		}
	}
}

func TestP2_1_NewAndInt(t *testing.T) {
	l := []int{0, 1, 2, 3, 6, 10, 999, limit - 1, limit, limit + 1, 2 * limit, 1 << 50, 1 << 62, most - 1, most}
	for _, n := range slices.Clone(l) {
		l = append(l, -n)
	}
	l = append(l, least, least+1, least+2)
	for _, num := range l {
		for _, den := range l {
			if den == 0 {
				continue
			}
			want, f := fromRat(new(big.Rat).SetFrac(big.NewInt(int64(num)), big.NewInt(int64(den))))
			if got, e := fraction.New(num, den); got != want || e != f {
				t.Error(num, den, got, e)
			}
		}
		want, f := fraction.New(num, 1)
		if got, e := fraction.Int(num); got != want || e != f {
			t.Error("Int", num, got, e)
		}
	}
}

// operation is a function of two fractions, and that of math/big which it must agree with.
type operation struct {
	name  string
	ours  func(a, b api.Frac) (api.Frac, int)
	exact func(z, x, y *big.Rat) *big.Rat
}

func operations() []operation {
	return []operation{
		{"Add", fraction.Add, (*big.Rat).Add},
		{"Sub", fraction.Sub, (*big.Rat).Sub},
		{"Mul", fraction.Mul, (*big.Rat).Mul},
		{"Div", fraction.Div, (*big.Rat).Quo},
	}
}

func TestP2_2_Operations(t *testing.T) {
	l := fractions()
	for _, o := range operations() {
		for _, a := range l {
			for _, b := range l {
				if o.name == "Div" && b.Num == 0 {
					continue
				}
				want, f := fromRat(o.exact(new(big.Rat), toRat(a), toRat(b)))
				if got, e := o.ours(a, b); got != want || e != f {
					t.Error(o.name, a, b, got, e)
				}
			}
		}
	}
}

func TestP2_2_Examples(t *testing.T) {
	frac := func(n, d int) api.Frac { return api.Frac{Num: n, Den: d} }
	for i, x := range []struct {
		ours func(a, b api.Frac) (api.Frac, int)
		a, b api.Frac
		want api.Frac
		e    int
	}{
		{fraction.Add, frac(1, 6), frac(1, 10), frac(4, 15), api.OK},
		{fraction.Mul, frac(2, 3), frac(9, 4), frac(3, 2), api.OK},
		{fraction.Div, frac(1, 2), frac(-3, 4), frac(-2, 3), api.OK},
		{fraction.Add, frac(1, limit-1), frac(1, limit), api.Frac{}, api.ErrLimit},
		{fraction.Add, frac(limit, 1), frac(1, 1), api.Frac{}, api.ErrLimit},
		{fraction.Add, frac(limit-1, 1), frac(1, 1), frac(limit, 1), api.OK},
		{fraction.Sub, frac(-limit, 1), frac(1, 1), api.Frac{}, api.ErrLimit},
		{fraction.Sub, frac(1, limit), frac(1, limit), frac(0, 1), api.OK},
		// The products of numerators and denominators exceed an int, and the result is small.
		{fraction.Mul, frac(limit, limit-1), frac(limit-1, limit), frac(1, 1), api.OK},
		{fraction.Div, frac(limit, limit-1), frac(limit, limit-1), frac(1, 1), api.OK},
		{fraction.Mul, frac(1, limit), frac(1, 2), api.Frac{}, api.ErrLimit},
		{fraction.Mul, frac(limit, 1), frac(-2, 1), api.Frac{}, api.ErrLimit},
		{fraction.Div, frac(0, 1), frac(-5, 3), frac(0, 1), api.OK},
		{fraction.Div, frac(1, 2), frac(-limit, 1), api.Frac{}, api.ErrLimit},
	} {
		if got, e := x.ours(x.a, x.b); got != x.want || e != x.e {
			t.Error(i, got, e)
		}
	}
}

func TestP2_2_Errors(t *testing.T) {
	zero, half := api.Frac{Num: 0, Den: 1}, api.Frac{Num: 1, Den: 2}
	for _, o := range operations() {
		for _, x := range invalid {
			for _, ok := range []api.Frac{zero, half} {
				if got, e := o.ours(x.f, ok); got != (api.Frac{}) || e != x.e {
					t.Error(o.name, x.f, ok, got, e)
				}
				if got, e := o.ours(ok, x.f); got != (api.Frac{}) || e != x.e {
					t.Error(o.name, ok, x.f, got, e)
				}
			}
			for _, y := range invalid {
				if _, e := o.ours(x.f, y.f); e != x.e {
					t.Error(o.name, x.f, y.f, e)
				}
			}
		}
	}
	for _, a := range []api.Frac{zero, half, {Num: -limit, Den: 1}} {
		if got, e := fraction.Div(a, zero); got != (api.Frac{}) || e != api.ErrZero {
			t.Error(a, got, e)
		}
	}
}

func TestP2_2_Neg(t *testing.T) {
	for _, a := range fractions() {
		if got, e := fraction.Neg(a); got != (api.Frac{Num: -a.Num, Den: a.Den}) || e != api.OK {
			t.Error(a, got, e)
		}
	}
	for _, x := range invalid {
		if got, e := fraction.Neg(x.f); got != (api.Frac{}) || e != x.e {
			t.Error(x.f, got, e)
		}
	}
}

func TestP2_3_Compare(t *testing.T) {
	l := fractions()
	for _, a := range l {
		for _, b := range l {
			if c := fraction.Compare(a, b); c != toRat(a).Cmp(toRat(b)) {
				t.Error(a, b, c)
			}
		}
	}
	for _, x := range invalid {
		for _, f := range []api.Frac{{Num: 0, Den: 1}, {Num: -5, Den: 3}, {Num: limit, Den: 1}, x.f} {
			if fraction.Compare(x.f, f) != 0 || fraction.Compare(f, x.f) != 0 {
				t.Error(x.f, f)
			}
		}
	}
}

func TestP2_3_Rounding(t *testing.T) {
	for _, x := range []struct {
		f                  api.Frac
		floor, ceil, round int
	}{
		{api.Frac{Num: 0, Den: 1}, 0, 0, 0},
		{api.Frac{Num: -3, Den: 2}, -2, -1, -2},
		{api.Frac{Num: 3, Den: 2}, 1, 2, 2},
		{api.Frac{Num: 5, Den: 4}, 1, 2, 1},
		{api.Frac{Num: -5, Den: 4}, -2, -1, -1},
		{api.Frac{Num: 7, Den: 4}, 1, 2, 2},
		{api.Frac{Num: -7, Den: 4}, -2, -1, -2},
		{api.Frac{Num: 1, Den: 2}, 0, 1, 1},
		{api.Frac{Num: -1, Den: 2}, -1, 0, -1},
		{api.Frac{Num: -4, Den: 1}, -4, -4, -4},
		{api.Frac{Num: limit, Den: 1}, limit, limit, limit},
		{api.Frac{Num: -limit, Den: 1}, -limit, -limit, -limit},
		{api.Frac{Num: 1, Den: limit}, 0, 1, 0},
		{api.Frac{Num: -1, Den: limit}, -1, 0, 0},
		{api.Frac{Num: limit - 1, Den: limit}, 0, 1, 1},
		{api.Frac{Num: limit/2 - 1, Den: limit - 1}, 0, 1, 0},
		{api.Frac{Num: limit / 2, Den: limit - 1}, 0, 1, 1},
	} {
		floor, ceil, round := fraction.Floor(x.f), fraction.Ceil(x.f), fraction.Round(x.f)
		if floor != x.floor || ceil != x.ceil || round != x.round {
			t.Error(x.f, floor, ceil, round)
		}
	}
	for _, x := range invalid {
		if fraction.Floor(x.f) != 0 || fraction.Ceil(x.f) != 0 || fraction.Round(x.f) != 0 {
			t.Error(x.f)
		}
	}
}

func TestP2_3_RoundingOfAll(t *testing.T) {
	for _, f := range fractions() {
		num, den := big.NewInt(int64(f.Num)), big.NewInt(int64(f.Den))
		floor := int(new(big.Int).Div(num, den).Int64())
		ceil := floor
		if f.Den > 1 {
			ceil++
		}
		// The nearest integer lies within a half; of two such integers the one that is farther from 0 is taken.
		round := floor
		twice := new(big.Int).Sub(new(big.Int).Mul(big.NewInt(2), num), new(big.Int).Mul(big.NewInt(int64(2*floor)), den))
		if c := twice.Cmp(den); c > 0 || c == 0 && f.Num > 0 {
			round++
		}
		if fraction.Floor(f) != floor || fraction.Ceil(f) != ceil || fraction.Round(f) != round {
			t.Error(f, fraction.Floor(f), fraction.Ceil(f), fraction.Round(f))
		}
	}
}

func TestP2_4_Sum(t *testing.T) {
	half, third, sixth := api.Frac{Num: 1, Den: 2}, api.Frac{Num: 1, Den: 3}, api.Frac{Num: 1, Den: 6}
	whole, fine := api.Frac{Num: limit, Den: 1}, api.Frac{Num: 1, Den: limit - 1}
	minus := api.Frac{Num: -limit, Den: 1}
	for i, x := range []struct {
		l []api.Frac
		f api.Frac
		e int
	}{
		{nil, api.Frac{Num: 0, Den: 1}, api.OK},
		{[]api.Frac{}, api.Frac{Num: 0, Den: 1}, api.OK},
		{[]api.Frac{third}, third, api.OK},
		{[]api.Frac{half, third, sixth}, api.Frac{Num: 1, Den: 1}, api.OK},
		// The result depends on the order: it is made from the left.
		{[]api.Frac{whole, minus, half}, half, api.OK},
		{[]api.Frac{whole, half, minus}, api.Frac{}, api.ErrLimit},
		{[]api.Frac{half, whole, minus}, api.Frac{}, api.ErrLimit},
		{[]api.Frac{half, fine, third}, api.Frac{}, api.ErrLimit},
		// The errors of the fractions come first, also if an addition before exceeds the limit.
		{[]api.Frac{half, fine, {Num: 2, Den: 4}}, api.Frac{}, api.ErrForm},
		{[]api.Frac{half, {Num: limit + 1, Den: 1}, {Num: 2, Den: 4}}, api.Frac{}, api.ErrLimit},
		{[]api.Frac{half, {Num: 2, Den: 4}, {Num: limit + 1, Den: 1}}, api.Frac{}, api.ErrForm},
		{[]api.Frac{{}}, api.Frac{}, api.ErrForm},
	} {
		if f, e := fraction.Sum(x.l); f != x.f || e != x.e {
			t.Error(i, f, e)
		}
	}
}

func TestP2_4_SumLeavesItsArgument(t *testing.T) {
	l := []api.Frac{{Num: 1, Den: 2}, {Num: -1, Den: 3}, {Num: 7, Den: 1}, {Num: 9, Den: 5}}
	keep := slices.Clone(l)
	fraction.Sum(l[:2])
	if !slices.Equal(l, keep) {
		t.Error(l)
	}
}

func TestP2_5_Text(t *testing.T) {
	for _, x := range []struct {
		f    api.Frac
		text string
	}{
		{api.Frac{Num: 0, Den: 1}, "0"},
		{api.Frac{Num: 7, Den: 1}, "7"},
		{api.Frac{Num: -12, Den: 1}, "-12"},
		{api.Frac{Num: -5, Den: 2}, "-5/2"},
		{api.Frac{Num: 10, Den: 7}, "10/7"},
		{api.Frac{Num: -limit, Den: limit - 1}, "-1000000000000000/999999999999999"},
	} {
		if text, e := fraction.Text(x.f); text != x.text || e != api.OK {
			t.Error(x, text, e)
		}
	}
	for _, x := range invalid {
		if text, e := fraction.Text(x.f); text != "" || e != x.e {
			t.Error(x.f, text, e)
		}
	}
}

func TestP2_5_Parse(t *testing.T) {
	for text, want := range map[string]api.Frac{
		"0": {Num: 0, Den: 1}, "-0": {Num: 0, Den: 1}, "-0/5": {Num: 0, Den: 1}, "0000": {Num: 0, Den: 1},
		"7": {Num: 7, Den: 1}, "-7": {Num: -7, Den: 1}, "-010/4": {Num: -5, Den: 2}, "6/4": {Num: 3, Den: 2}, "3/1": {Num: 3, Den: 1},
		"1/0000000000000003": {Num: 1, Den: 3}, "0000000000000012/18": {Num: 2, Den: 3},
		"1000000000000000": {Num: limit, Den: 1}, "-1000000000000000": {Num: -limit, Den: 1}, "1/1000000000000000": {Num: 1, Den: limit},
		"9999999999999999/9999999999999999": {Num: 1, Den: 1}, "5000000000000000/5": {Num: limit, Den: 1},
	} {
		if f, e := fraction.Parse(text); f != want || e != api.OK {
			t.Error(text, f, e)
		}
	}
}

func TestP2_5_ParseErrors(t *testing.T) {
	for text, want := range map[string]int{
		"": api.ErrSyntax, "-": api.ErrSyntax, "/": api.ErrSyntax, "1/": api.ErrSyntax, "/2": api.ErrSyntax, "-/2": api.ErrSyntax,
		"+1": api.ErrSyntax, "--1": api.ErrSyntax, "1-": api.ErrSyntax, "10/-4": api.ErrSyntax, "10/+4": api.ErrSyntax, "1/2/3": api.ErrSyntax, "1//2": api.ErrSyntax, "1/2/": api.ErrSyntax,
		" 1": api.ErrSyntax, "1 ": api.ErrSyntax, "1 /2": api.ErrSyntax, "1/ 2": api.ErrSyntax, "- 1": api.ErrSyntax, "1\n": api.ErrSyntax, "\x001": api.ErrSyntax,
		"1.5": api.ErrSyntax, "1e3": api.ErrSyntax, "0x1": api.ErrSyntax, "1_000": api.ErrSyntax, "a": api.ErrSyntax, ":": api.ErrSyntax, "1/a": api.ErrSyntax, "\u0661": api.ErrSyntax, "\xff": api.ErrSyntax,
		"00000000000000001": api.ErrSyntax, "1/00000000000000002": api.ErrSyntax, "99999999999999999999999999999": api.ErrSyntax,
		"5/0": api.ErrZero, "0/0": api.ErrZero, "-1/0000": api.ErrZero, "9999999999999999/0": api.ErrZero,
		"a/0": api.ErrSyntax, "00000000000000001/0": api.ErrSyntax,
		"9999999999999999": api.ErrLimit, "1000000000000001": api.ErrLimit, "-1000000000000001": api.ErrLimit, "1/1000000000000001": api.ErrLimit,
	} {
		if f, e := fraction.Parse(text); f != (api.Frac{}) || e != want {
			t.Error(strconv.Quote(text), f, e)
		}
	}
}

func TestP2_6_Laws(t *testing.T) {
	l := fractions()
	for _, a := range l {
		for _, b := range l {
			s, e := fraction.Add(a, b)
			if other, f := fraction.Add(b, a); s != other || e != f {
				t.Error("sums", a, b)
			}
			if e == api.OK {
				if back, f := fraction.Sub(s, b); back != a || f != api.OK {
					t.Error("Sub undoes Add", a, b, back, f)
				}
				if c := fraction.Compare(s, a); c != fraction.Compare(b, api.Frac{Num: 0, Den: 1}) {
					t.Error("a sum is greater if a summand is", a, b)
				}
			}
			p, e := fraction.Mul(a, b)
			if other, f := fraction.Mul(b, a); p != other || e != f {
				t.Error("products", a, b)
			}
			if e == api.OK && b.Num != 0 {
				if back, f := fraction.Div(p, b); back != a || f != api.OK {
					t.Error("Div undoes Mul", a, b, back, f)
				}
			}
		}
	}
}

func TestP2_6_TextsAndFloors(t *testing.T) {
	for _, f := range fractions() {
		text, _ := fraction.Text(f)
		if back, e := fraction.Parse(text); back != f || e != api.OK {
			t.Error(f, text, back, e)
		}
		floor, _ := fraction.Int(fraction.Floor(f))
		if fraction.Compare(floor, f) > 0 {
			t.Error("floor", f)
		}
		if above, e := fraction.Int(floor.Num + 1); e == api.OK && fraction.Compare(f, above) >= 0 {
			t.Error("floor + 1", f)
		}
	}
}
