// Package wide is layer 1: exact integers of up to 127 bits. See shared/doc/01-wide.md.
package wide

import (
	"math/bits"

	"coupe/api"
)

const (
	half       = 1 << 63 // the bound of Hi, and the magnitude of the least int
	maxFactors = 1000    // the longest lists that Dot takes
	maxText    = 40      // 2^127 has 39 digits, and there may be a sign
)

// Check returns the error of a wide integer: ErrRange, ErrForm.
func Check(w api.Wide) int {
	if w.Hi >= half {
		return api.ErrRange
	}
	if w == (api.Wide{Neg: true}) {
		return api.ErrForm
	}
	return api.OK
}

// firstError returns the error of the first operand that has one.
func firstError(operands ...api.Wide) int {
	for _, w := range operands {
		if e := Check(w); e != api.OK {
			return e
		}
	}
	return api.OK
}

// Of returns an int as a wide integer.
func Of(a int) api.Wide {
	return signed(a < 0, 0, magnitude(a))
}

// magnitude is unsigned because that of the least int is not an int.
func magnitude(a int) uint64 {
	if a < 0 {
		return -uint64(a)
	}
	return uint64(a)
}

// signed takes the sign away from a magnitude of 0, since 0 is not negative.
func signed(negative bool, hi, lo uint64) api.Wide {
	return api.Wide{Neg: negative && hi|lo != 0, Hi: hi, Lo: lo}
}

// limited returns a valid integer, or ErrLimit if the magnitude is not below 2^127.
func limited(negative bool, hi, lo uint64) (api.Wide, int) {
	if hi >= half {
		return api.Wide{}, api.ErrLimit
	}
	return signed(negative, hi, lo), api.OK
}

// Int returns a wide integer as an int: the error of Check, ErrLimit.
func Int(w api.Wide) (int, int) {
	if e := Check(w); e != api.OK {
		return 0, e
	}
	// There is one negative int more than there are positive ones.
	if w.Hi != 0 || w.Lo > half || w.Lo == half && !w.Neg {
		return 0, api.ErrLimit
	}
	if w.Neg {
		return int(-w.Lo), api.OK
	}
	return int(w.Lo), api.OK
}

// Mul returns the product of two ints: at most 2^126 in magnitude, so that it needs no error.
func Mul(a, b int) api.Wide {
	hi, lo := bits.Mul64(magnitude(a), magnitude(b))
	return signed((a < 0) != (b < 0), hi, lo)
}

// Add returns the sum: the errors of Check, ErrLimit.
func Add(v, w api.Wide) (api.Wide, int) {
	if e := firstError(v, w); e != api.OK {
		return api.Wide{}, e
	}
	return sum(v, w)
}

// Sub returns the difference: the errors of Check, ErrLimit.
func Sub(v, w api.Wide) (api.Wide, int) {
	if e := firstError(v, w); e != api.OK {
		return api.Wide{}, e
	}
	return sum(v, opposite(w))
}

// Neg returns the negative: the error of Check.
func Neg(w api.Wide) (api.Wide, int) {
	if e := Check(w); e != api.OK {
		return api.Wide{}, e
	}
	return opposite(w), api.OK
}

// opposite returns the negative of a valid integer.
func opposite(w api.Wide) api.Wide {
	return signed(!w.Neg, w.Hi, w.Lo)
}

// sum adds valid integers: both magnitudes are below 2^127, so that their sum has no carry out of 128 bits.
func sum(v, w api.Wide) (api.Wide, int) {
	if v.Neg == w.Neg {
		lo, carry := bits.Add64(v.Lo, w.Lo, 0)
		hi, _ := bits.Add64(v.Hi, w.Hi, carry)
		return limited(v.Neg, hi, lo)
	}
	if compareMagnitudes(v, w) < 0 {
		v, w = w, v
	}
	lo, borrow := bits.Sub64(v.Lo, w.Lo, 0)
	hi, _ := bits.Sub64(v.Hi, w.Hi, borrow)
	return limited(v.Neg, hi, lo)
}

// Compare returns -1, 0 or 1; 0 if one of them is not valid.
func Compare(v, w api.Wide) int {
	if firstError(v, w) != api.OK {
		return 0
	}
	switch {
	case v.Neg && w.Neg:
		return compareMagnitudes(w, v)
	case v.Neg:
		return -1
	case w.Neg:
		return 1
	}
	return compareMagnitudes(v, w)
}

// compareMagnitudes compares without regard to the signs.
func compareMagnitudes(v, w api.Wide) int {
	switch {
	case v.Hi < w.Hi || v.Hi == w.Hi && v.Lo < w.Lo:
		return -1
	case v.Hi == w.Hi && v.Lo == w.Lo:
		return 0
	}
	return 1
}

// Times returns the product with an int: the error of Check, ErrLimit.
func Times(w api.Wide, a int) (api.Wide, int) {
	if e := Check(w); e != api.OK {
		return api.Wide{}, e
	}
	factor := magnitude(a)
	over, upper := bits.Mul64(w.Hi, factor)
	middle, lo := bits.Mul64(w.Lo, factor)
	hi, carry := bits.Add64(upper, middle, 0)
	if over|carry != 0 {
		return api.Wide{}, api.ErrLimit
	}
	return limited(w.Neg != (a < 0), hi, lo)
}

// DivFloor returns the quotient by an int, rounded down, and the remainder: the error of Check, ErrZero.
func DivFloor(w api.Wide, d int) (api.Wide, int, int) {
	if e := Check(w); e != api.OK {
		return api.Wide{}, 0, e
	}
	if d == 0 {
		return api.Wide{}, 0, api.ErrZero
	}
	divisor := magnitude(d)
	hi, lo, rest := divide(w.Hi, w.Lo, divisor)
	negative := w.Neg != (d < 0)
	if negative && rest != 0 {
		// The quotient of the magnitudes is rounded towards 0, but a negative one goes down to the next integer.
		var carry uint64
		lo, carry = bits.Add64(lo, 1, 0)
		hi += carry
		rest = divisor - rest
	}
	remainder := int(rest)
	if d < 0 {
		remainder = -remainder
	}
	return signed(negative, hi, lo), remainder, api.OK
}

// divide divides a magnitude in two steps, since the quotient of Div64 must fit into 64 bits.
func divide(hi, lo, divisor uint64) (uint64, uint64, uint64) {
	upper, over := hi/divisor, hi%divisor
	lower, rest := bits.Div64(over, lo, divisor)
	return upper, lower, rest
}

// Gcd returns the greatest common divisor of a wide integer and an int: the error of Check, ErrLimit.
func Gcd(w api.Wide, a int) (int, int) {
	if e := Check(w); e != api.OK {
		return 0, e
	}
	w.Neg = false
	if a == 0 {
		return Int(w)
	}
	big := magnitude(a)
	_, _, small := divide(w.Hi, w.Lo, big)
	for small != 0 {
		big, small = small, big%small
	}
	return Int(signed(false, 0, big))
}

// Dot returns the sum of the products of the elements of two lists: ErrArg, ErrLimit.
func Dot(a, b []int) (api.Wide, int) {
	if len(a) != len(b) {
		return api.Wide{}, api.ErrArg
	}
	if len(a) > maxFactors {
		return api.Wide{}, api.ErrLimit
	}
	total := api.Wide{}
	for i, x := range a {
		next, e := sum(total, Mul(x, b[i]))
		if e != api.OK {
			return api.Wide{}, e
		}
		total = next
	}
	return total, api.OK
}

// Products compares the product of a and b with that of c and d: -1, 0 or 1.
func Products(a, b, c, d int) int {
	return Compare(Mul(a, b), Mul(c, d))
}

// Text returns the decimal text, or "" if w is not valid.
func Text(w api.Wide) string {
	if Check(w) != api.OK {
		return ""
	}
	text := make([]byte, maxText)
	at := len(text)
	hi, lo := w.Hi, w.Lo
	for at == len(text) || hi|lo != 0 {
		var digit uint64
		hi, lo, digit = divide(hi, lo, 10)
		at--
		text[at] = '0' + byte(digit)
	}
	if w.Neg {
		at--
		text[at] = '-'
	}
	return string(text[at:])
}
