// Package fraction is layer 2: fractions with bounded numerators and denominators. See shared/doc/02-fraction.md.
package fraction

import (
	"strconv"
	"strings"

	"coupe/api"
	"coupe/wide"
)

// maxDigits is the greatest number of digits of a number that Parse reads.
const maxDigits = 16

// Check returns the error of a fraction: ErrForm, ErrLimit.
func Check(f api.Frac) int {
	if f.Den <= 0 {
		return api.ErrForm
	}
	if beyond(f.Num) || beyond(f.Den) {
		return api.ErrLimit
	}
	if divisor(magnitude(f.Num), magnitude(f.Den)) > 1 {
		return api.ErrForm
	}
	return api.OK
}

// firstError returns the error of the first operand that has one.
func firstError(operands ...api.Frac) int {
	for _, f := range operands {
		if e := Check(f); e != api.OK {
			return e
		}
	}
	return api.OK
}

// beyond reports whether a number is above MaxFrac in magnitude.
func beyond(n int) bool {
	return n > api.MaxFrac || n < -api.MaxFrac
}

// magnitude is unsigned because that of the least int is not an int.
func magnitude(n int) uint64 {
	if n < 0 {
		return -uint64(n)
	}
	return uint64(n)
}

// divisor returns the greatest common divisor.
func divisor(a, b uint64) uint64 {
	for b != 0 {
		a, b = b, a%b
	}
	return a
}

// New returns a quotient: ErrZero, ErrLimit.
func New(num, den int) (api.Frac, int) {
	if den == 0 {
		return api.Frac{}, api.ErrZero
	}
	n, d := magnitude(num), magnitude(den)
	common := divisor(n, d)
	n, d = n/common, d/common
	if n > api.MaxFrac || d > api.MaxFrac {
		return api.Frac{}, api.ErrLimit
	}
	if (num < 0) != (den < 0) {
		return api.Frac{Num: -int(n), Den: int(d)}, api.OK
	}
	return api.Frac{Num: int(n), Den: int(d)}, api.OK
}

// Int returns an integer as a fraction: ErrLimit.
func Int(n int) (api.Frac, int) {
	return New(n, 1)
}

// Add returns a sum: the errors of Check, ErrLimit.
func Add(a, b api.Frac) (api.Frac, int) {
	if e := firstError(a, b); e != api.OK {
		return api.Frac{}, e
	}
	return sum(a, b)
}

// Sub returns a difference: the errors of Check, ErrLimit.
func Sub(a, b api.Frac) (api.Frac, int) {
	if e := firstError(a, b); e != api.OK {
		return api.Frac{}, e
	}
	return sum(a, opposite(b))
}

// sum adds valid fractions. In lowest terms, only a divisor of the common divisor of both denominators can be left to
// divide out; and the numerator has at most 101 bits, so that no step before the last one has an error.
func sum(a, b api.Frac) (api.Frac, int) {
	common := int(divisor(magnitude(a.Den), magnitude(b.Den)))
	num, _ := wide.Add(wide.Mul(a.Num, b.Den/common), wide.Mul(b.Num, a.Den/common))
	rest, _ := wide.Gcd(num, common)
	num, _, _ = wide.DivFloor(num, rest)
	return limited(num, wide.Mul(a.Den/common, b.Den/rest))
}

// limited returns a fraction that is in lowest terms already: ErrLimit.
func limited(num, den api.Wide) (api.Frac, int) {
	n, e := wide.Int(num)
	if e != api.OK {
		return api.Frac{}, e
	}
	d, e := wide.Int(den)
	if e != api.OK {
		return api.Frac{}, e
	}
	if beyond(n) || beyond(d) {
		return api.Frac{}, api.ErrLimit
	}
	return api.Frac{Num: n, Den: d}, api.OK
}

// Mul returns a product: the errors of Check, ErrLimit.
func Mul(a, b api.Frac) (api.Frac, int) {
	if e := firstError(a, b); e != api.OK {
		return api.Frac{}, e
	}
	return product(a, b)
}

// Div returns a quotient: the errors of Check, ErrZero, ErrLimit.
func Div(a, b api.Frac) (api.Frac, int) {
	if e := firstError(a, b); e != api.OK {
		return api.Frac{}, e
	}
	if isZero(b) {
		return api.Frac{}, api.ErrZero
	}
	return product(a, reciprocal(b))
}

// isZero reports whether a valid fraction is 0, which has just one form.
func isZero(f api.Frac) bool {
	return f == api.Frac{Num: 0, Den: 1}
}

// product multiplies valid fractions, in lowest terms because each numerator is freed from the divisors that it shares
// with the other denominator first.
func product(a, b api.Frac) (api.Frac, int) {
	across := int(divisor(magnitude(a.Num), magnitude(b.Den)))
	back := int(divisor(magnitude(b.Num), magnitude(a.Den)))
	return limited(wide.Mul(a.Num/across, b.Num/back), wide.Mul(a.Den/back, b.Den/across))
}

// reciprocal turns a valid fraction that is not 0 upside down.
func reciprocal(f api.Frac) api.Frac {
	if f.Num < 0 {
		return api.Frac{Num: -f.Den, Den: -f.Num}
	}
	return api.Frac{Num: f.Den, Den: f.Num}
}

// Neg returns the negative: the error of Check.
func Neg(a api.Frac) (api.Frac, int) {
	if e := Check(a); e != api.OK {
		return api.Frac{}, e
	}
	return opposite(a), api.OK
}

// opposite returns the negative of a valid fraction.
func opposite(f api.Frac) api.Frac {
	return api.Frac{Num: -f.Num, Den: f.Den}
}

// Compare returns -1, 0 or 1; 0 if one of them is not valid.
func Compare(a, b api.Frac) int {
	if firstError(a, b) != api.OK {
		return 0
	}
	return wide.Products(a.Num, b.Den, b.Num, a.Den)
}

// Floor returns the greatest integer that is not above a fraction; 0 if it is not valid.
func Floor(f api.Frac) int {
	if Check(f) != api.OK {
		return 0
	}
	if f.Num%f.Den < 0 {
		return f.Num/f.Den - 1
	}
	return f.Num / f.Den
}

// Ceil returns the least integer that is not below a fraction; 0 if it is not valid.
func Ceil(f api.Frac) int {
	if Check(f) != api.OK {
		return 0
	}
	return -Floor(opposite(f))
}

// Round returns the nearest integer, halves away from 0; 0 if the fraction is not valid.
func Round(f api.Frac) int {
	if Check(f) != api.OK {
		return 0
	}
	if f.Num < 0 {
		return -Round(opposite(f))
	}
	return (2*f.Num + f.Den) / (2 * f.Den)
}

// Sum adds fractions from left to right: the error of Check, ErrLimit.
func Sum(l []api.Frac) (api.Frac, int) {
	if e := firstError(l...); e != api.OK {
		return api.Frac{}, e
	}
	total := api.Frac{Num: 0, Den: 1}
	for _, f := range l {
		next, e := sum(total, f)
		if e != api.OK {
			return api.Frac{}, e
		}
		total = next
	}
	return total, api.OK
}

// Text returns a fraction as text: the error of Check.
func Text(f api.Frac) (string, int) {
	if e := Check(f); e != api.OK {
		return "", e
	}
	if f.Den == 1 {
		return strconv.Itoa(f.Num), api.OK
	}
	return strconv.Itoa(f.Num) + "/" + strconv.Itoa(f.Den), api.OK
}

// Parse reads a fraction: ErrSyntax, ErrZero, ErrLimit.
func Parse(text string) (api.Frac, int) {
	unsigned, negative := strings.CutPrefix(text, "-")
	above, below, divided := strings.Cut(unsigned, "/")
	num, ok := number(above)
	if !ok {
		return api.Frac{}, api.ErrSyntax
	}
	den := 1
	if divided {
		den, ok = number(below)
		if !ok {
			return api.Frac{}, api.ErrSyntax
		}
	}
	if negative {
		num = -num
	}
	return New(num, den)
}

// number reads 1 to 16 digits, which always fit into an int; strconv.Atoi would permit signs as well.
func number(text string) (int, bool) {
	if len(text) == 0 || len(text) > maxDigits {
		return 0, false
	}
	n := 0
	for i := range len(text) {
		if text[i] < '0' || text[i] > '9' {
			return 0, false
		}
		n = 10*n + int(text[i]-'0')
	}
	return n, true
}
