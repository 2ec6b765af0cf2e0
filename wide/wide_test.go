package wide_test

import (
	"math/big"
	"math/rand/v2"
	"slices"
	"testing"

	"coupe/api"
	"coupe/wide"
)

const (
	least = -1 << 63
	most  = 1<<63 - 1
)

var (
	bound    = new(big.Int).Lsh(big.NewInt(1), 127)
	greatest = api.Wide{Hi: 1<<63 - 1, Lo: 1<<64 - 1}
	smallest = api.Wide{Neg: true, Hi: 1<<63 - 1, Lo: 1<<64 - 1}
)

// invalid are integers that are not valid, with their errors.
var invalid = []struct {
	w api.Wide
	e int
}{
	{api.Wide{Neg: true}, api.ErrForm},
	{api.Wide{Hi: 1 << 63}, api.ErrRange},
	{api.Wide{Neg: true, Hi: 1 << 63}, api.ErrRange},
	{api.Wide{Hi: 1<<64 - 1, Lo: 1<<64 - 1}, api.ErrRange},
	{api.Wide{Neg: true, Hi: 1<<63 + 5, Lo: 9}, api.ErrRange},
}

// ints are small ints, those about powers of 2, and others of all sizes.
func ints() []int {
	l := []int{0, 1, 2, 3, 4, 5, 6, 7, 9, 10, 12, 16, 18, 24, 100, 1000000007, 1000000000000000, 4000000000, 5000000000, 1 << 31, 1 << 32, 1<<32 - 1, 1<<32 + 1, 1 << 62, 1<<62 - 1, most, most - 1}
	r := rand.New(rand.NewPCG(1, 1))
	for i := range 12 {
		l = append(l, int(r.Uint64()>>(1+5*i)))
	}
	for _, n := range slices.Clone(l) {
		l = append(l, -n)
	}
	return append(l, least)
}

// wides are valid integers: the ints, those about powers of 2 and 10 up to the limits, and others of all sizes.
func wides() []api.Wide {
	var l []*big.Int
	for _, shift := range []uint{63, 64, 65, 96, 125, 126, 127} {
		power := new(big.Int).Lsh(big.NewInt(1), shift)
		for _, d := range []int64{-2, -1, 0, 1, 2} {
			l = append(l, new(big.Int).Add(power, big.NewInt(d)))
		}
	}
	for power := big.NewInt(1); power.Cmp(bound) < 0; power = new(big.Int).Mul(power, big.NewInt(10)) {
		l = append(l, power)
	}
	r := rand.New(rand.NewPCG(2, 2))
	for i := range uint(24) {
		b := new(big.Int).Lsh(new(big.Int).SetUint64(r.Uint64()), 64)
		l = append(l, b.Rsh(b.Add(b, new(big.Int).SetUint64(r.Uint64())), 1+5*i))
	}
	for _, n := range []int64{0, 2, 3, 7, 9, 12, 18, most - 5} {
		l = append(l, big.NewInt(n))
	}
	var out []api.Wide
	for _, b := range l {
		for _, signed := range []*big.Int{b, new(big.Int).Neg(b)} {
			if w, e := fromBig(signed); e == api.OK && !slices.Contains(out, w) {
				out = append(out, w)
			}
		}
	}
	return out
}

func toBig(w api.Wide) *big.Int {
	b := new(big.Int).Lsh(new(big.Int).SetUint64(w.Hi), 64)
	b.Add(b, new(big.Int).SetUint64(w.Lo))
	if w.Neg {
		b.Neg(b)
	}
	return b
}

func ofInt(n int) *big.Int {
	return big.NewInt(int64(n))
}

// fromBig is what a function returns for an exact result.
func fromBig(b *big.Int) (api.Wide, int) {
	m := new(big.Int).Abs(b)
	if m.Cmp(bound) >= 0 {
		return api.Wide{}, api.ErrLimit
	}
	lo := new(big.Int).And(m, new(big.Int).SetUint64(1<<64-1))
	return api.Wide{Neg: b.Sign() < 0, Hi: new(big.Int).Rsh(m, 64).Uint64(), Lo: lo.Uint64()}, api.OK
}

// intFromBig is what a function with an int as its result returns.
func intFromBig(b *big.Int) (int, int) {
	if !b.IsInt64() {
		return 0, api.ErrLimit
	}
	return int(b.Int64()), api.OK
}

// TestP1_AnyArguments calls all functions with integers of any form: none panics, and all results are valid.
func TestP1_AnyArguments(t *testing.T) {
	words := []uint64{0, 1, 2, 10, 1<<63 - 1, 1 << 63, 1<<63 + 1, 1<<64 - 1}
	var l []api.Wide
	for _, hi := range words {
		for _, lo := range words {
			l = append(l, api.Wide{Hi: hi, Lo: lo}, api.Wide{Neg: true, Hi: hi, Lo: lo})
		}
	}
	valid := func(name string, w api.Wide, e int) {
		if wide.Check(w) != api.OK || e != api.OK && w != (api.Wide{}) {
			t.Error(name, w, e)
		}
	}
	for _, v := range l {
		w, e := wide.Neg(v)
		valid("Neg", w, e)
		wide.Int(v)
		wide.Text(v)
		for _, x := range l {
			w, e = wide.Add(v, x)
			valid("Add", w, e)
			w, e = wide.Sub(v, x)
			valid("Sub", w, e)
			wide.Compare(v, x)
		}
		for _, a := range ints() {
			w, e = wide.Times(v, a)
			valid("Times", w, e)
			w, _, e = wide.DivFloor(v, a)
			valid("DivFloor", w, e)
			wide.Gcd(v, a)
		}
	}
}

func TestP1_1_Check(t *testing.T) {
	for _, x := range invalid {
		if e := wide.Check(x.w); e != x.e {
			t.Error(x.w, e)
		}
	}
	for _, w := range append(wides(), api.Wide{}, greatest, smallest) {
		if e := wide.Check(w); e != api.OK {
			t.Error(w, e)
		}
	}
}

func TestP1_1_Of(t *testing.T) {
	if w := wide.Of(-3); w != (api.Wide{Neg: true, Lo: 3}) {
		t.Error(w)
	}
	if w := wide.Of(least); w != (api.Wide{Neg: true, Lo: 1 << 63}) {
		t.Error(w)
	}
	for _, n := range ints() {
		w := wide.Of(n)
		if want, _ := fromBig(ofInt(n)); w != want {
			t.Error(n, w)
		}
		if back, e := wide.Int(w); back != n || e != api.OK {
			t.Error(n, back, e)
		}
	}
}

func TestP1_1_Int(t *testing.T) {
	for _, x := range []struct {
		w    api.Wide
		n, e int
	}{
		{api.Wide{Lo: 1<<63 - 1}, most, api.OK},
		{api.Wide{Lo: 1 << 63}, 0, api.ErrLimit},
		{api.Wide{Neg: true, Lo: 1<<63 - 1}, -most, api.OK},
		{api.Wide{Neg: true, Lo: 1 << 63}, least, api.OK},
		{api.Wide{Neg: true, Lo: 1<<63 + 1}, 0, api.ErrLimit},
		{api.Wide{Hi: 1}, 0, api.ErrLimit},
		{api.Wide{Hi: 1, Lo: 4}, 0, api.ErrLimit},
		{api.Wide{Neg: true, Hi: 1, Lo: 1 << 63}, 0, api.ErrLimit},
	} {
		if n, e := wide.Int(x.w); n != x.n || e != x.e {
			t.Error(x, n, e)
		}
	}
	for _, w := range wides() {
		want, f := intFromBig(toBig(w))
		if n, e := wide.Int(w); n != want || e != f {
			t.Error(w, n, e)
		}
	}
	for _, x := range invalid {
		if n, e := wide.Int(x.w); n != 0 || e != x.e {
			t.Error(x.w, n, e)
		}
	}
}

func TestP1_2_Mul(t *testing.T) {
	if w := wide.Mul(4000000000, 5000000000); w != (api.Wide{Hi: 1, Lo: 1553255926290448384}) {
		t.Error(w)
	}
	if w := wide.Mul(least, least); w != (api.Wide{Hi: 1 << 62}) {
		t.Error(w)
	}
	for _, a := range ints() {
		for _, b := range ints() {
			want, _ := fromBig(new(big.Int).Mul(ofInt(a), ofInt(b)))
			if w := wide.Mul(a, b); w != want {
				t.Error(a, b, w)
			}
		}
	}
}

func TestP1_2_AddSub(t *testing.T) {
	l := wides()
	for _, v := range l {
		for _, w := range l {
			want, f := fromBig(new(big.Int).Add(toBig(v), toBig(w)))
			if s, e := wide.Add(v, w); s != want || e != f {
				t.Error("Add", v, w, s, e)
			}
			want, f = fromBig(new(big.Int).Sub(toBig(v), toBig(w)))
			if d, e := wide.Sub(v, w); d != want || e != f {
				t.Error("Sub", v, w, d, e)
			}
		}
	}
}

func TestP1_2_Limits(t *testing.T) {
	one := wide.Of(1)
	if w, e := wide.Add(greatest, one); w != (api.Wide{}) || e != api.ErrLimit {
		t.Error(w, e)
	}
	if w, e := wide.Sub(smallest, one); w != (api.Wide{}) || e != api.ErrLimit {
		t.Error(w, e)
	}
	if w, e := wide.Add(greatest, greatest); w != (api.Wide{}) || e != api.ErrLimit {
		t.Error(w, e)
	}
	if w, e := wide.Add(greatest, smallest); w != (api.Wide{}) || e != api.OK {
		t.Error(w, e)
	}
	if w, e := wide.Sub(greatest, greatest); w != (api.Wide{}) || e != api.OK {
		t.Error(w, e)
	}
	if w, e := wide.Times(greatest, -1); w != smallest || e != api.OK {
		t.Error(w, e)
	}
	if w, e := wide.Times(api.Wide{Hi: 1<<62 - 1, Lo: 1<<64 - 1}, 2); w != (api.Wide{Hi: 1<<63 - 1, Lo: 1<<64 - 2}) || e != api.OK {
		t.Error(w, e)
	}
	// The products leave 127, 128 and even 190 bits.
	for _, x := range []struct {
		w api.Wide
		a int
	}{{api.Wide{Hi: 1 << 62}, 2}, {api.Wide{Hi: 1 << 62}, 4}, {api.Wide{Hi: 1 << 62, Lo: 5}, -4}, {greatest, least}, {api.Wide{Hi: 2}, least}, {api.Wide{Hi: 1}, least}} {
		if w, e := wide.Times(x.w, x.a); w != (api.Wide{}) || e != api.ErrLimit {
			t.Error(x, w, e)
		}
	}
}

func TestP1_2_Neg(t *testing.T) {
	if w, e := wide.Neg(api.Wide{}); w != (api.Wide{}) || e != api.OK {
		t.Error(w, e)
	}
	twoTo63, _ := wide.Neg(wide.Of(least))
	if _, e := wide.Int(twoTo63); e != api.ErrLimit {
		t.Error(twoTo63, e)
	}
	back, _ := wide.Neg(twoTo63)
	if n, e := wide.Int(back); n != least || e != api.OK {
		t.Error(n, e)
	}
	for _, w := range wides() {
		want, _ := fromBig(new(big.Int).Neg(toBig(w)))
		if n, e := wide.Neg(w); n != want || e != api.OK {
			t.Error(w, n, e)
		}
	}
}

func TestP1_2_Times(t *testing.T) {
	for _, w := range wides() {
		for _, a := range ints() {
			want, f := fromBig(new(big.Int).Mul(toBig(w), ofInt(a)))
			if p, e := wide.Times(w, a); p != want || e != f {
				t.Error(w, a, p, e)
			}
		}
	}
}

func TestP1_2_Invalid(t *testing.T) {
	for _, x := range invalid {
		for _, ok := range []api.Wide{{}, wide.Of(7), greatest, smallest} {
			if w, e := wide.Add(x.w, ok); w != (api.Wide{}) || e != x.e {
				t.Error("Add", x.w, ok, w, e)
			}
			if w, e := wide.Add(ok, x.w); w != (api.Wide{}) || e != x.e {
				t.Error("Add", ok, x.w, w, e)
			}
			if w, e := wide.Sub(x.w, ok); w != (api.Wide{}) || e != x.e {
				t.Error("Sub", x.w, ok, w, e)
			}
			if w, e := wide.Sub(ok, x.w); w != (api.Wide{}) || e != x.e {
				t.Error("Sub", ok, x.w, w, e)
			}
		}
		for _, y := range invalid {
			if _, e := wide.Add(x.w, y.w); e != x.e {
				t.Error("Add", x.w, y.w, e)
			}
			if _, e := wide.Sub(x.w, y.w); e != x.e {
				t.Error("Sub", x.w, y.w, e)
			}
		}
		if w, e := wide.Neg(x.w); w != (api.Wide{}) || e != x.e {
			t.Error("Neg", x.w, w, e)
		}
		for _, a := range []int{0, 1, -1, least} {
			if w, e := wide.Times(x.w, a); w != (api.Wide{}) || e != x.e {
				t.Error("Times", x.w, a, w, e)
			}
		}
	}
}

func TestP1_3_Compare(t *testing.T) {
	l := wides()
	for _, v := range l {
		for _, w := range l {
			if c := wide.Compare(v, w); c != toBig(v).Cmp(toBig(w)) {
				t.Error(v, w, c)
			}
		}
		for _, x := range invalid {
			if wide.Compare(v, x.w) != 0 || wide.Compare(x.w, v) != 0 {
				t.Error(v, x.w)
			}
		}
	}
	for _, x := range invalid {
		for _, y := range invalid {
			if wide.Compare(x.w, y.w) != 0 {
				t.Error(x.w, y.w)
			}
		}
	}
}

func TestP1_3_Products(t *testing.T) {
	if c := wide.Products(3, 5, 2, 8); c != -1 {
		t.Error(c)
	}
	l := []int{least, least + 1, -4000000000, -8, -3, -1, 0, 1, 2, 6, 4000000000, 1 << 62, most - 1, most}
	for _, a := range l {
		for _, b := range l {
			for _, c := range l {
				for _, d := range l {
					want := new(big.Int).Mul(ofInt(a), ofInt(b)).Cmp(new(big.Int).Mul(ofInt(c), ofInt(d)))
					if n := wide.Products(a, b, c, d); n != want {
						t.Error(a, b, c, d, n)
					}
				}
			}
		}
	}
}

func TestP1_4_DivFloor(t *testing.T) {
	for _, w := range wides() {
		for _, d := range ints() {
			if d == 0 {
				continue
			}
			// The quotient of DivMod is that of the floor for positive divisors; both signs are changed for the others.
			above, below := toBig(w), ofInt(d)
			if d < 0 {
				above.Neg(above)
				below.Neg(below)
			}
			quotient, rest := new(big.Int).DivMod(above, below, new(big.Int))
			want, _ := fromBig(quotient)
			remainder := int(rest.Int64())
			if d < 0 {
				remainder = -remainder
			}
			if q, r, e := wide.DivFloor(w, d); q != want || r != remainder || e != api.OK {
				t.Error(w, d, q, r, e)
			}
		}
	}
}

func TestP1_4_DivFloorExamples(t *testing.T) {
	for _, x := range []struct{ w, d, q, r int }{{-7, 2, -4, 1}, {7, -2, -4, -1}, {-7, -2, 3, -1}, {7, 2, 3, 1}, {-6, 2, -3, 0}, {6, -2, -3, 0}, {0, -5, 0, 0}, {-1, most, -1, most - 1}, {1, least, -1, least + 1}, {-1, least, 0, -1}} {
		if q, r, e := wide.DivFloor(wide.Of(x.w), x.d); q != wide.Of(x.q) || r != x.r || e != api.OK {
			t.Error(x, q, r, e)
		}
	}
	if q, r, e := wide.DivFloor(wide.Of(least), -1); q != (api.Wide{Lo: 1 << 63}) || r != 0 || e != api.OK {
		t.Error(q, r, e)
	}
	if q, r, e := wide.DivFloor(greatest, -1); q != smallest || r != 0 || e != api.OK {
		t.Error(q, r, e)
	}
	// Rounding down carries from Lo to Hi: the quotient of the magnitudes is 2^64 - 1, with the rest 1.
	if q, r, e := wide.DivFloor(api.Wide{Neg: true, Hi: 1, Lo: 1<<64 - 1}, 2); q != (api.Wide{Neg: true, Hi: 1}) || r != 1 || e != api.OK {
		t.Error(q, r, e)
	}
}

func TestP1_4_DivFloorErrors(t *testing.T) {
	for _, w := range []api.Wide{{}, wide.Of(-1), greatest} {
		if q, r, e := wide.DivFloor(w, 0); q != (api.Wide{}) || r != 0 || e != api.ErrZero {
			t.Error(w, q, r, e)
		}
	}
	for _, x := range invalid {
		for _, d := range []int{0, 1, -3, least} {
			if q, r, e := wide.DivFloor(x.w, d); q != (api.Wide{}) || r != 0 || e != x.e {
				t.Error(x.w, d, q, r, e)
			}
		}
	}
}

func TestP1_5_Gcd(t *testing.T) {
	for _, w := range wides() {
		for _, a := range ints() {
			// GCD of math/big takes the magnitudes, and 0 for two zeros.
			want, f := intFromBig(new(big.Int).GCD(nil, nil, new(big.Int).Abs(toBig(w)), new(big.Int).Abs(ofInt(a))))
			if g, e := wide.Gcd(w, a); g != want || e != f {
				t.Error(w, a, g, e)
			}
		}
	}
}

func TestP1_5_GcdEdges(t *testing.T) {
	for _, x := range []struct {
		w       api.Wide
		a, g, e int
	}{
		{wide.Of(12), -18, 6, api.OK},
		{wide.Of(-12), 18, 6, api.OK},
		{wide.Of(0), 0, 0, api.OK},
		{wide.Of(0), -18, 18, api.OK},
		{wide.Of(-18), 0, 18, api.OK},
		{wide.Of(0), most, most, api.OK},
		{wide.Of(-most), 0, most, api.OK},
		{wide.Of(0), least, 0, api.ErrLimit},
		{wide.Of(least), 0, 0, api.ErrLimit},
		{wide.Of(least), least, 0, api.ErrLimit},
		{wide.Of(least), 1 << 62, 1 << 62, api.OK},
		{api.Wide{Hi: 3}, least, 0, api.ErrLimit},
		{api.Wide{Hi: 1}, 0, 0, api.ErrLimit},
		{api.Wide{Hi: 1}, 48, 16, api.OK},
		{greatest, 7, 1, api.OK},
	} {
		if g, e := wide.Gcd(x.w, x.a); g != x.g || e != x.e {
			t.Error(x, g, e)
		}
	}
	for _, x := range invalid {
		for _, a := range []int{0, 6, least} {
			if g, e := wide.Gcd(x.w, a); g != 0 || e != x.e {
				t.Error(x.w, a, g, e)
			}
		}
	}
}

// dot is what Dot returns, for lists of equal lengths of at most 1000 elements.
func dot(a, b []int) (api.Wide, int) {
	total := new(big.Int)
	for i := range a {
		total.Add(total, new(big.Int).Mul(ofInt(a[i]), ofInt(b[i])))
		if total.CmpAbs(bound) >= 0 {
			return api.Wide{}, api.ErrLimit
		}
	}
	return fromBig(total)
}

func TestP1_6_Dot(t *testing.T) {
	for _, x := range []struct {
		a, b []int
		want api.Wide
		e    int
	}{
		{nil, nil, api.Wide{}, api.OK},
		{nil, []int{}, api.Wide{}, api.OK},
		{[]int{1, 2, 3}, []int{4, 5, 6}, api.Wide{Lo: 32}, api.OK},
		{[]int{2, -3}, []int{3, 2}, api.Wide{}, api.OK},
		{[]int{most, most, -5}, []int{most, -most, 2}, api.Wide{Neg: true, Lo: 10}, api.OK},
		{[]int{least, most}, []int{least, most}, api.Wide{Hi: 1<<63 - 1, Lo: 1}, api.OK},
		{[]int{least, least}, []int{least, least}, api.Wide{}, api.ErrLimit},
		{[]int{least, most, 1, most, most}, []int{most, least, 0, least, least}, api.Wide{}, api.ErrLimit},
		// The whole sum is small, but that of the first two products is not.
		{[]int{least, least, least, least}, []int{least, least, most, most}, api.Wide{}, api.ErrLimit},
		{[]int{least, least, least, least}, []int{least, most, least, most}, api.Wide{Lo: 0, Hi: 1}, api.OK},
	} {
		if w, e := wide.Dot(x.a, x.b); w != x.want || e != x.e {
			t.Error(x, w, e)
		}
	}
	r := rand.New(rand.NewPCG(3, 3))
	l := ints()
	for range 2000 {
		n := r.IntN(9)
		a, b := make([]int, n), make([]int, n)
		for i := range n {
			a[i], b[i] = l[r.IntN(len(l))], l[r.IntN(len(l))]
		}
		want, f := dot(a, b)
		if w, e := wide.Dot(a, b); w != want || e != f {
			t.Error(a, b, w, e)
		}
	}
}

func TestP1_6_DotLengths(t *testing.T) {
	ones := slices.Repeat([]int{1}, 1002)
	for _, x := range []struct {
		a, b []int
		want api.Wide
		e    int
	}{
		{[]int{1}, nil, api.Wide{}, api.ErrArg},
		{[]int{1, 2}, []int{1, 2, 3}, api.Wide{}, api.ErrArg},
		{ones[:999], ones[:999], api.Wide{Lo: 999}, api.OK},
		{ones[:1000], ones[:1000], api.Wide{Lo: 1000}, api.OK},
		{ones[:1001], ones[:1001], api.Wide{}, api.ErrLimit},
		{ones[:1001], ones[:1002], api.Wide{}, api.ErrArg},
		{ones[:1001], nil, api.Wide{}, api.ErrArg},
	} {
		if w, e := wide.Dot(x.a, x.b); w != x.want || e != x.e {
			t.Error(len(x.a), len(x.b), w, e)
		}
	}
}

func TestP1_6_DotLeavesItsArguments(t *testing.T) {
	a, b := []int{3, least, 5, 77, 78}, []int{1, 2, most, 79, 80}
	keepA, keepB := slices.Clone(a), slices.Clone(b)
	wide.Dot(a[:3], b[:3])
	if !slices.Equal(a, keepA) || !slices.Equal(b, keepB) {
		t.Error(a, b)
	}
}

func TestP1_7_Text(t *testing.T) {
	for _, x := range []struct {
		w    api.Wide
		text string
	}{
		{api.Wide{}, "0"},
		{wide.Of(10), "10"},
		{wide.Of(-3), "-3"},
		{wide.Mul(4000000000, 5000000000), "20000000000000000000"},
		{wide.Of(least), "-9223372036854775808"},
		// Lo becomes 0 on the way, although digits are left.
		{api.Wide{Hi: 10}, "184467440737095516160"},
		{api.Wide{Neg: true, Hi: 700}, "-12912720851596686131200"},
		{greatest, "170141183460469231731687303715884105727"},
		{smallest, "-170141183460469231731687303715884105727"},
	} {
		if text := wide.Text(x.w); text != x.text {
			t.Error(x, text)
		}
	}
	for _, w := range wides() {
		if text := wide.Text(w); text != toBig(w).String() {
			t.Error(w, text)
		}
	}
	for _, x := range invalid {
		if text := wide.Text(x.w); text != "" {
			t.Error(x.w, text)
		}
	}
}

func TestP1_8_SmallInts(t *testing.T) {
	for a := -12; a <= 12; a++ {
		for b := -12; b <= 12; b++ {
			s, e := wide.Add(wide.Of(a), wide.Of(b))
			d, f := wide.Sub(wide.Of(a), wide.Of(b))
			p, g := wide.Times(wide.Of(a), b)
			if s != wide.Of(a+b) || d != wide.Of(a-b) || p != wide.Of(a*b) || wide.Mul(a, b) != wide.Of(a*b) || e|f|g != api.OK {
				t.Error(a, b, s, d, p, e, f, g)
			}
		}
	}
}

func TestP1_8_LawsOfSums(t *testing.T) {
	l := wides()
	for i, u := range l {
		for _, v := range l {
			s, e := wide.Add(u, v)
			if back, f := wide.Add(v, u); back != s || f != e {
				t.Error("commutative", u, v)
			}
			w := l[(i*7+3)%len(l)]
			right, f := wide.Add(v, w)
			if e != api.OK || f != api.OK {
				continue
			}
			one, e := wide.Add(s, w)
			other, f := wide.Add(u, right)
			if one != other || e != f {
				t.Error("associative", u, v, w)
			}
		}
	}
}

func TestP1_8_LawsOfProducts(t *testing.T) {
	l := []int{-40, -9, -1, 0, 1, 2, 30, 100000, most, least}
	for _, w := range wides() {
		for _, a := range l {
			if s, _ := wide.Times(wide.Of(a), 3); s != wide.Mul(3, a) || wide.Mul(a, 3) != wide.Mul(3, a) {
				t.Error("commutative", a)
			}
			for _, b := range l[:7] {
				once, e := wide.Times(w, a)
				twice, f := wide.Times(once, b)
				swapped, g := wide.Times(w, b)
				other, h := wide.Times(swapped, a)
				if e|f|g|h == api.OK && twice != other {
					t.Error("associative", w, a, b)
				}
				sum, i := wide.Add(w, wide.Of(b))
				whole, j := wide.Times(sum, a)
				parts, k := wide.Add(once, wide.Mul(a, b))
				if e|i|j|k == api.OK && whole != parts {
					t.Error("distributive", w, a, b)
				}
			}
		}
	}
}

func TestP1_8_GcdDividesBoth(t *testing.T) {
	for _, w := range wides() {
		for _, a := range ints() {
			g, e := wide.Gcd(w, a)
			if e != api.OK || g == 0 {
				continue
			}
			if _, r, _ := wide.DivFloor(w, g); r != 0 || a%g != 0 || g < 0 {
				t.Error(w, a, g)
			}
		}
	}
}
